import PyProof.Rows.All
import Wide.All
import OpenK.AllK
import Wide.FinOn
import HandS.Call
import HandS.List
import HandS.Wide
import KE.KOpsOwn
import HandS.ForMost
import HandS.Gcd
import HandS.MakeKw
import HandS.IsInst
import HandS.Codes
import PySem.Challenge.RW_wordworth_k01_ratio_arithmetic
/-! lowest terms, in plain Lean -/
namespace RT
def gg (t b : Int) : Int := ((Nat.gcd t.natAbs b.natAbs : Nat) : Int)
def byv (t b : Int) : Int := if b > 0 then gg t b else -(gg t b)
def top (t b : Int) : Int := t.fdiv (byv t b)
def bot (t b : Int) : Int := b.fdiv (byv t b)
theorem gg_pos {t b : Int} (h : b ≠ 0) : 0 < gg t b := by
  have : 0 < Nat.gcd t.natAbs b.natAbs := Nat.gcd_pos_of_pos_right _ (by omega)
  unfold gg; omega
theorem byv_ne {t b : Int} (h : b ≠ 0) : byv t b ≠ 0 := by
  have := gg_pos (t := t) h
  unfold byv; split <;> omega
theorem gg_dvd_l (t b : Int) : gg t b ∣ t := by
  unfold gg
  exact Int.ofNat_dvd_left.mpr (Nat.gcd_dvd_left _ _)
theorem gg_dvd_r (t b : Int) : gg t b ∣ b := by
  unfold gg
  exact Int.ofNat_dvd_left.mpr (Nat.gcd_dvd_right _ _)
theorem byv_dvd_l (t b : Int) : byv t b ∣ t := by
  unfold byv; split
  · exact gg_dvd_l t b
  · exact Int.neg_dvd.mpr (gg_dvd_l t b)
theorem byv_dvd_r (t b : Int) : byv t b ∣ b := by
  unfold byv; split
  · exact gg_dvd_r t b
  · exact Int.neg_dvd.mpr (gg_dvd_r t b)
theorem byv_natAbs (t b : Int) : (byv t b).natAbs = Nat.gcd t.natAbs b.natAbs := by
  unfold byv gg; split <;> simp
theorem fdiv_of_dvd {a b : Int} (hb : b ≠ 0) (h : b ∣ a) : a.fdiv b * b = a := by
  obtain ⟨k, rfl⟩ := h
  rw [Int.mul_fdiv_cancel_left _ hb, Int.mul_comm]
theorem top_mul {t b : Int} (h : b ≠ 0) : top t b * byv t b = t := fdiv_of_dvd (byv_ne h) (byv_dvd_l t b)
theorem bot_mul {t b : Int} (h : b ≠ 0) : bot t b * byv t b = b := fdiv_of_dvd (byv_ne h) (byv_dvd_r t b)
theorem bot_pos {t b : Int} (h : b ≠ 0) : 0 < bot t b := by
  have e := bot_mul (t := t) h
  have g := gg_pos (t := t) h
  unfold byv at e
  split at e
  · rename_i hb
    rcases Int.lt_trichotomy (bot t b) 0 with z | z | z
    · have := Int.mul_neg_of_neg_of_pos z g; omega
    · rw [z] at e; omega
    · exact z
  · rename_i hb
    rcases Int.lt_trichotomy (bot t b) 0 with z | z | z
    · have := Int.mul_neg_of_neg_of_pos z g
      have h2 : bot t b * -gg t b = -(bot t b * gg t b) := Int.mul_neg _ _
      omega
    · rw [z] at e; omega
    · exact z
theorem cop {t b : Int} (h : b ≠ 0) : Nat.Coprime (top t b).natAbs (bot t b).natAbs := by
  have e1 : (top t b).natAbs * Nat.gcd t.natAbs b.natAbs = t.natAbs := by
    rw [← byv_natAbs, ← Int.natAbs_mul, top_mul h]
  have e2 : (bot t b).natAbs * Nat.gcd t.natAbs b.natAbs = b.natAbs := by
    rw [← byv_natAbs, ← Int.natAbs_mul, bot_mul h]
  have hp : 0 < Nat.gcd t.natAbs b.natAbs := Nat.gcd_pos_of_pos_right _ (by omega)
  have : Nat.gcd ((top t b).natAbs * Nat.gcd t.natAbs b.natAbs) ((bot t b).natAbs * Nat.gcd t.natAbs b.natAbs) = Nat.gcd t.natAbs b.natAbs := by rw [e1, e2]
  rw [Nat.gcd_mul_right] at this
  unfold Nat.Coprime
  exact Nat.eq_of_mul_eq_mul_right hp (by rw [this, Nat.one_mul])
/-- two in lowest terms that are worth the same are the same -/
theorem uniq {n d n' d' : Int} (hd : 0 < d) (hd' : 0 < d') (c : Nat.Coprime n.natAbs d.natAbs) (c' : Nat.Coprime n'.natAbs d'.natAbs) (e : n * d' = n' * d) : n = n' ∧ d = d' := by
  have ea : n.natAbs * d'.natAbs = n'.natAbs * d.natAbs := by rw [← Int.natAbs_mul, e, Int.natAbs_mul]
  have h1 : d.natAbs ∣ d'.natAbs := c.symm.dvd_of_dvd_mul_left ⟨n'.natAbs, by rw [ea, Nat.mul_comm]⟩
  have h2 : d'.natAbs ∣ d.natAbs := c'.symm.dvd_of_dvd_mul_left ⟨n.natAbs, by rw [← ea, Nat.mul_comm]⟩
  have h3 : d.natAbs = d'.natAbs := Nat.dvd_antisymm h1 h2
  have h4 : d = d' := by omega
  subst h4
  exact ⟨Int.eq_of_mul_eq_mul_right (by omega) e, rfl⟩
theorem same {t b t' b' : Int} (h : b ≠ 0) (h' : b' ≠ 0) (e : t * b' = t' * b) : top t b = top t' b' ∧ bot t b = bot t' b' := by
  refine uniq (bot_pos h) (bot_pos h') (cop h) (cop h') ?_
  have e1 := top_mul (t := t) h
  have e2 := bot_mul (t := t) h
  have e3 := top_mul (t := t') h'
  have e4 := bot_mul (t := t') h'
  refine Int.eq_of_mul_eq_mul_right (byv_ne (t := t) h) (Int.eq_of_mul_eq_mul_right (byv_ne (t := t') h') ?_)
  calc top t b * bot t' b' * byv t b * byv t' b' = (top t b * byv t b) * (bot t' b' * byv t' b') := by ac_rfl
    _ = t * b' := by rw [e1, e4]
    _ = t' * b := e
    _ = (top t' b' * byv t' b') * (bot t b * byv t b) := by rw [e3, e2]
    _ = top t' b' * bot t b * byv t b * byv t' b' := by ac_rfl
/-- what is in lowest terms stays -/
theorem keeps {n d : Int} (hd : 0 < d) (c : Nat.Coprime n.natAbs d.natAbs) : top n d = n ∧ bot n d = d := by
  have h : d ≠ 0 := by omega
  refine uniq (bot_pos h) hd (cop h) c ?_
  have e1 := top_mul (t := n) h
  have e2 := bot_mul (t := n) h
  refine Int.eq_of_mul_eq_mul_right (byv_ne (t := n) h) ?_
  calc top n d * d * byv n d = (top n d * byv n d) * d := by ac_rfl
    _ = n * d := by rw [e1]
    _ = n * (bot n d * byv n d) := by rw [e2]
    _ = n * bot n d * byv n d := by ac_rfl
theorem one (t : Int) : top t 1 = t ∧ bot t 1 = 1 := keeps (by decide) (Nat.coprime_one_right _)
/-- worth: the fraction is the same number -/
theorem cross {t b : Int} (h : b ≠ 0) : top t b * b = t * bot t b := by
  have e1 := top_mul (t := t) h
  have e2 := bot_mul (t := t) h
  have e : top t b * b = top t b * (bot t b * byv t b) := by rw [e2]
  have e' : t * bot t b = (top t b * byv t b) * bot t b := by rw [e1]
  rw [e, e']; ac_rfl
theorem top_le {t b : Int} (h : b ≠ 0) : (top t b).natAbs ≤ t.natAbs := by
  have e1 : (top t b).natAbs * (byv t b).natAbs = t.natAbs := by rw [← Int.natAbs_mul, top_mul h]
  have : 0 < (byv t b).natAbs := by have := byv_ne (t := t) h; omega
  rw [← e1]; exact Nat.le_mul_of_pos_right _ this
theorem bot_le {t b : Int} (h : b ≠ 0) : (bot t b).natAbs ≤ b.natAbs := by
  have e1 : (bot t b).natAbs * (byv t b).natAbs = b.natAbs := by rw [← Int.natAbs_mul, bot_mul h]
  have : 0 < (byv t b).natAbs := by have := byv_ne (t := t) h; omega
  rw [← e1]; exact Nat.le_mul_of_pos_right _ this
theorem byv_le {t b : Int} (h : b ≠ 0) : (byv t b).natAbs ≤ b.natAbs := by
  rw [byv_natAbs]; exact Nat.le_of_dvd (by omega) (Nat.gcd_dvd_right _ _)
/-- minus and less -/
theorem neg_cop {n d : Int} (c : Nat.Coprime n.natAbs d.natAbs) : Nat.Coprime (0 - n).natAbs d.natAbs := by
  have : (0 - n).natAbs = n.natAbs := by omega
  rw [this]; exact c
/-- distributive, over lowest terms -/
theorem chain {a b c d e f : Int} (hb : b ≠ 0) (hd : d ≠ 0) (hf : f ≠ 0) :
    top (top (a * e) (b * f) * bot (c * e) (d * f) + top (c * e) (d * f) * bot (a * e) (b * f)) (bot (a * e) (b * f) * bot (c * e) (d * f))
      = top (top (a * d + c * b) (b * d) * e) (bot (a * d + c * b) (b * d) * f) ∧
    bot (top (a * e) (b * f) * bot (c * e) (d * f) + top (c * e) (d * f) * bot (a * e) (b * f)) (bot (a * e) (b * f) * bot (c * e) (d * f))
      = bot (top (a * d + c * b) (b * d) * e) (bot (a * d + c * b) (b * d) * f) := by
  have h1 : b * f ≠ 0 := Int.mul_ne_zero hb hf
  have h2 : d * f ≠ 0 := Int.mul_ne_zero hd hf
  have h3 : b * d ≠ 0 := Int.mul_ne_zero hb hd
  have p1 := bot_pos (t := a * e) h1
  have p2 := bot_pos (t := c * e) h2
  have p3 := bot_pos (t := a * d + c * b) h3
  have x1 := cross (t := a * e) h1
  have x2 := cross (t := c * e) h2
  have x3 := cross (t := a * d + c * b) h3
  generalize top (a * e) (b * f) = n1 at *
  generalize bot (a * e) (b * f) = d1 at *
  generalize top (c * e) (d * f) = n2 at *
  generalize bot (c * e) (d * f) = d2 at *
  generalize top (a * d + c * b) (b * d) = n3 at *
  generalize bot (a * d + c * b) (b * d) = d3 at *
  refine same (Int.mul_ne_zero (by omega) (by omega)) (Int.mul_ne_zero (by omega) hf) ?_
  -- (n1 d2 + n2 d1) (d3 f) = (n3 e) (d1 d2)
  refine Int.eq_of_mul_eq_mul_right h3 (Int.eq_of_mul_eq_mul_right hf ?_)
  have L : (n1 * d2 + n2 * d1) * (d3 * f) * (b * d) * f = ((n1 * (b * f)) * (d2 * d * d3) + (n2 * (d * f)) * (d1 * b * d3)) * f := by
    simp only [Int.add_mul, Int.mul_add]
    congr 1 <;> ac_rfl
  have R : n3 * e * (d1 * d2) * (b * d) * f = (n3 * (b * d)) * (e * d1 * d2 * f) := by ac_rfl
  rw [L, R, x1, x2, x3]
  simp only [Int.add_mul, Int.mul_add]
  congr 1 <;> ac_rfl
end RT

set_option Elab.async false
set_option maxRecDepth 100000
namespace RX
open PySem PySem.Spec PyProof.Rows L2
/-- // by a divisor of either sign, below 2 ^ 9000 -/
def CDivZ (_ j : Int) : Prop := j ≠ 0 ∧ j.natAbs.log2 < 9000
theorem op_fdivZ {X : Cx} : OpR X (binaryOp .FloorDiv) (rI CDivZ fun i j => .int (i.fdiv j)) := opI fun _ _ _ _ _ _ _ hc q => floordiv_int hc.1 q (.inl (PyProof.noPylong_of_log2 hc.2))
theorem divZ {i j : Int} {b : Nat} (h : j ≠ 0) (hb : j.natAbs < 2 ^ b) (h0 : 0 < b) (h9 : b ≤ 9000) : CDivZ i j := ⟨h, Nat.lt_of_lt_of_le (PySem.Flt.log2_lt_of h0 hb) h9⟩
/-- the class at C has the operator op as the def at f -/
structure OpOf (K : PySem.W.Frag) (C : Addr) (x : Str) (f : Addr) : Prop where
  first : PySem.W.selfFirst K C = true
  at_ : PySem.W.findIn K (.ref C) x = some (some (.ref f))
  fn : PySem.W.isFn K (.ref f) = true
/-- a op b, both instances of the class at C: what the operator's def promises; it hands back an object -/
def rOwn (C : Addr) (sp : Sp) (E : XK) : R2 := fun x y H Q => ∃ a b dx dy fs gs, x = .ref a ∧ y = .ref b ∧ H a = some (.ins C dx fs) ∧ H b = some (.ins C dy gs) ∧ sp [.ref a, .ref b] H (fun v H' => (∃ c, v = .ref c) ∧ Q v H') E
def rOwn1 (C : Addr) (sp : Sp) (E : XK) : V → Hp → VK → Prop := fun x H Q => ∃ a dx fs, x = .ref a ∧ H a = some (.ins C dx fs) ∧ sp [.ref a] H Q E
section
variable {X : Cx} {CX : CXT} {k : Nat} {C f : Addr} {fd : FuncData} {ps : List Str} {sp : Sp} {E : XK}
theorem op_own {op : Operator} (O : OpOf X.K C (PySem.dunder op.info.2) f) (F : FnOk X.prog X.w X.K X.mg X.base CX k f fd ps sp) (hr : Room k X.A) (hb : Binds X.K fd ps []) (hx : Passes CX X E) : OpR X (binaryOp op) (rOwn C sp E) := by
  intro pins s σ H x y v u Q I rx ry h
  obtain ⟨a, b, dx, dy, fs, gs, rfl, rfl, ha, hb', hs⟩ := h
  cases rx
  cases ry
  obtain ⟨mA, J, _⟩ := ins_get I.hok ha
  obtain ⟨mB, J', _⟩ := ins_get I.hok hb'
  obtain ⟨od, J, _⟩ := J.look
  obtain ⟨od', J', _⟩ := J'.look
  obtain ⟨m, hF⟩ := I.fr
  refine PySem.W.binop_K hF I.ok.mod.kin J J'.type O.first O.at_ O.fn ?_
  refine thn (run_fn (us := [.ref a, .ref b]) (vs := [.ref a, .ref b]) (dvs := []) (ds := []) F hr hb .nil hx I (.cons rfl (.cons rfl .nil)) hs) fun w' s' hq => ?_
  obtain ⟨z, H', I', rz, ⟨c, ez⟩, q⟩ := hq
  subst ez
  cases rz
  exact ⟨.ref c, H', I', rfl, q⟩
theorem un_own {op : UnaryOp} (h1 : op = .USub) (hs : PySem.W.findIn X.K (.ref C) "__neg__" = some (some (.ref f))) (hf : PySem.W.isFn X.K (.ref f) = true) (F : FnOk X.prog X.w X.K X.mg X.base CX k f fd ps sp) (hr : Room k X.A) (hb : Binds X.K fd ps []) (hx : Passes CX X E) : UnR X (unaryOp op) (rOwn1 C sp E) := by
  subst h1
  intro pins s σ H x v Q I rx h
  obtain ⟨a, dx, fs, rfl, ha, hsp⟩ := h
  cases rx
  obtain ⟨mA, J, _⟩ := ins_get I.hok ha
  obtain ⟨od, J, _⟩ := J.look
  obtain ⟨m, hF⟩ := I.fr
  refine PySem.W.ksp_neg hF I.ok.mod.kin J hs hf ?_
  exact run_fn (us := [.ref a]) (vs := [.ref a]) (dvs := []) (ds := []) F hr hb .nil hx I (.cons rfl .nil) hsp
end
end RX

set_option Elab.async false
set_option maxRecDepth 100000
namespace RX
open PySem L2
def topS (i : Nat) : Stmt := PySem.Challenge.pw_wordworth_k01_ratio_arithmetic.main.body.getD i (.Pass ⟨0, 0, 0, 0⟩)
abbrev sInit : Stmt := inClass (topS 6) 0
abbrev sAdd : Stmt := inClass (topS 6) 1
abbrev sSub : Stmt := inClass (topS 6) 2
abbrev sMul : Stmt := inClass (topS 6) 3
abbrev sNeg : Stmt := inClass (topS 6) 4
/-! ### a Ratio -/
theorem tb : ¬ (("top" : Str) = "bottom") := by decide +kernel
def rf (n d : Int) : List (Str × V) := putF "bottom" (.int d) (putF "top" (.int n) [])
theorem rf_top (n d : Int) : (rf n d).lookup ("top" : Str) = some (.int n) := by
  unfold rf
  rw [lookup_putF, if_neg tb, lookup_putF, if_pos rfl]
theorem rf_bot (n d : Int) : (rf n d).lookup ("bottom" : Str) = some (.int d) := by
  unfold rf
  rw [lookup_putF, if_pos rfl]
theorem rf_no (n d : Int) {m : Str} (h1 : ¬ m = "bottom") (h2 : ¬ m = "top") : (rf n d).lookup m = none := by
  unfold rf
  rw [lookup_putF, if_neg h1, lookup_putF, if_neg h2]
  all_goals rfl
/-- the Ratio n / d stands at p -/
def RatAt (C : Addr) (H : Hp) (p : Addr) (n d : Int) : Prop := ∃ dx, H p = some (.ins C dx (rf n d))
theorem RatAt.same {C : Addr} {H H' : Hp} {p : Addr} {n d : Int} (s : Same H H') (h : RatAt C H p n d) : RatAt C H' p n d := let ⟨dx, e⟩ := h; ⟨dx, s _ _ e⟩
theorem Same.upd {H : Hp} {p : Addr} {o : HO} (h : H p = none) : Same H (upd H p o) := fun b x e => by
  rw [upd_ne (ne_of_none e h)]
  exact e
/-- of at most 4400 bits -/
def Sm (x : Int) : Prop := x.natAbs < 2 ^ 4400
/-- of at most 8900 bits -/
def Md (x : Int) : Prop := x.natAbs < 2 ^ 8900
theorem Sm.mul {x y : Int} (a : Sm x) (b : Sm y) : x.natAbs * y.natAbs < 2 ^ 8800 := by
  have := Nat.mul_lt_mul'' a b
  rw [← Nat.pow_add] at this
  exact this
theorem Sm.w {x y : Int} (a : Sm x) (b : Sm y) : CMulW x y := wide_mul a b (by decide) (by decide) (by decide)
theorem Sm.md {x y : Int} (a : Sm x) (b : Sm y) : Md (x * y) := by
  unfold Md
  rw [Int.natAbs_mul]
  exact Nat.lt_trans (Sm.mul a b) (Nat.pow_lt_pow_right (by decide) (by decide))
/-! ### promises -/
def spInit (C : Addr) : Sp := fun vs H Q _ => ∃ (p dx : Addr) (t b : Int), vs = [.ref p, .int t, .int b] ∧ H p = some (.ins C dx []) ∧ b ≠ 0 ∧ Md b ∧
  ∀ H' : Hp, RatAt C H' p (RT.top t b) (RT.bot t b) → (∀ c o, H c = some o → c ≠ p → H' c = some o) → Q .non H'
/-- of two Ratios: a new one -/
def spBin (C : Addr) (g g' : Int → Int → Int → Int → Int) : Sp := fun vs H Q _ => ∃ (p q : Addr) (n d m e : Int), vs = [.ref p, .ref q] ∧ RatAt C H p n d ∧ RatAt C H q m e ∧ d ≠ 0 ∧ e ≠ 0 ∧ Sm n ∧ Sm d ∧ Sm m ∧ Sm e ∧
  ∀ (r : Addr) (H' : Hp), Same H H' → H r = none → RatAt C H' r (RT.top (g n d m e) (g' n d m e)) (RT.bot (g n d m e) (g' n d m e)) → Q (.ref r) H'
def spAdd (C : Addr) : Sp := spBin C (fun n d m e => n * e + m * d) (fun _ d _ e => d * e)
def spSub (C : Addr) : Sp := spBin C (fun n d m e => n * e - m * d) (fun _ d _ e => d * e)
def spMul (C : Addr) : Sp := spBin C (fun n _ m _ => n * m) (fun _ d _ e => d * e)
def spNeg (C : Addr) : Sp := fun vs H Q _ => ∃ (p : Addr) (n d : Int), vs = [.ref p] ∧ RatAt C H p n d ∧ d ≠ 0 ∧ Sm d ∧
  ∀ (r : Addr) (H' : Hp), Same H H' → H r = none → RatAt C H' r (RT.top (-n) d) (RT.bot (-n) d) → Q (.ref r) H'
structure TxtR (K : PySem.W.Frag) (mg : Str → Option Value) (C : Addr) : Prop where
  cl : Cls K C
  nT : NoAttr K C "top"
  nB : NoAttr K C "bottom"
  mgC : mg "Ratio" = some (.ref C)
  gcd : mg "gcd" = some (.builtin "math.gcd")
section
variable {P : Program} {w : World} {K : PySem.W.Frag} {mg : Str → Option Value} {base : Heap}
theorem scI : FnScope ["self", "top", "bottom", "shared", "by"] ["self", "top", "bottom"] (defScope sInit) := ⟨rfl, rfl, rfl, by decide +kernel, rfl, by decide +kernel, by decide +kernel⟩
theorem ok_init {f C : Addr} {fd : FuncData} (F : FunD K "__init__" "Ratio.__init__" (defArgs sInit) (defBody sInit) (defScope sInit) [.int 1] [] f fd) (T : TxtR K mg C) : FnOk P w K mg base CX0 1 f fd ["self", "top", "bottom"] (spInit C) := by
  refine F.ok scI (fun vs H Q E h => ?_) (fun cdv A outer s H vs Q E hr h => ?_)
  · obtain ⟨p, dx, t, b, rfl, _⟩ := h
    rfl
  · obtain ⟨p, dx, t, b, rfl, hp, hb, hz, k⟩ := h
    refine ⟨_, pss_cons (ps_if (pt_cmpR op_eq (pv 2) pe_int (nomark _)) (pss_one ps_never) pss_nil)
      (pss_cons (ps_set (i := 3) scI.nd rfl (Or.inl rfl) (pe_callBfun cr_gcd (by rfl) T.gcd (pa_cons (pv 1) (pa_cons (pv 2) pa_nil))))
      (pss_cons (ps_set (i := 4) scI.nd rfl (Or.inl rfl) (pe_ifExp (pt_cmpR op_gt (pv 2) pe_int (nomark _)) (pv 3) (pe_un un_neg (pv 3))))
      (pss_cons (ps_fld (pv 0) (pe_op op_fdivZ (pv 1) (pv 4)) rfl)
      (pss_one (ps_fld (pv 0) (pe_op op_fdivZ (pv 2) (pv 4)) rfl))))), ?_⟩
    refine ⟨_, rfl, rfl, _, rfl, ?_⟩
    refine ite2 (fun z => ?_) (fun _ => ?_)
    · have z' := of_decide_eq_true z
      injection z' with z'
      exact absurd z' hb
    refine ⟨_, rfl, _, rfl, t, b, rfl, ?_⟩
    refine ⟨_, rfl, _, _, rfl, rfl, _, rfl, ?_⟩
    have by_ne := RT.byv_ne (t := t) hb
    have by_le := RT.byv_le (t := t) hb
    have hdiv : ∀ x y : Int, y = RT.byv t b → CDivZ x y := fun x y e => by
      subst e
      exact divZ by_ne (Nat.lt_of_le_of_lt by_le hz) (by decide) (by decide)
    have key : (if decide (b > 0) = true then RT.gg t b else -RT.gg t b) = RT.byv t b := by
      unfold RT.byv
      by_cases h0 : b > 0
      · rw [if_pos h0, if_pos (decide_eq_true h0)]
      · rw [if_neg h0, if_neg (by rw [decide_eq_false h0]; exact Bool.false_ne_true)]
    have fin : ∀ x : Int, x = RT.byv t b → Q .non (upd (upd H p (.ins C dx (putF "top" (.int (t.fdiv x)) []))) p (.ins C dx (putF "bottom" (.int (b.fdiv x)) (putF "top" (.int (t.fdiv x)) [])))) := fun x e => by
      subst e
      refine k _ ⟨dx, upd_same⟩ fun c o hc ne => ?_
      rw [upd_ne ne, upd_ne ne]
      exact hc
    refine ite2 (fun z => ?_) (fun z => ?_)
    · rw [if_pos z] at key
      refine ⟨_, rfl, _, rfl, _, rfl, _, _, rfl, rfl, (hdiv t _ key), _, rfl, p, C, dx, [], rfl, hp, T.cl, T.nT, (by show 0 < 1000; decide), ?_⟩
      exact ⟨_, rfl, _, rfl, _, _, rfl, rfl, (hdiv b _ key), _, rfl, p, C, dx, _, rfl, upd_same, T.cl, T.nB, (by show 1 < 1000; decide), fin _ key⟩
    · rw [if_neg z] at key
      refine ⟨_, rfl, _, rfl, _, rfl, _, rfl, _, _, rfl, rfl, (hdiv t _ key), _, rfl, p, C, dx, [], rfl, hp, T.cl, T.nT, (by show 0 < 1000; decide), ?_⟩
      exact ⟨_, rfl, _, rfl, _, _, rfl, rfl, (hdiv b _ key), _, rfl, p, C, dx, _, rfl, upd_same, T.cl, T.nB, (by show 1 < 1000; decide), fin _ key⟩
/-- Ratio(t, b), both written: the rule's own question answered -/
theorem make_in {C : Addr} {H : Hp} {t b : Int} {Q : VK} {E : XK} (hb : b ≠ 0) (hz : Md b) (k : ∀ (r : Addr) (H' : Hp), Same H H' → H r = none → RatAt C H' r (RT.top t b) (RT.bot t b) → Q (.ref r) H') :
    ∀ x dx, H x = none → H dx = none → dx ≠ x → spInit C (.ref x :: ([.int t, .int b] ++ [])) (upd (upd H dx (.own x)) x (.ins C dx [])) (fun v H2 => v = .non ∧ Q (.ref x) H2) E := by
  intro x dx nx nd ne
  exact ⟨x, dx, t, b, rfl, upd_same, hb, hz, fun H' hR kp => ⟨rfl, k x H' (Same.made nx nd kp) nx hR⟩⟩
theorem scA : FnScope ["self", "other", "top"] ["self", "other"] (defScope sAdd) := ⟨rfl, rfl, rfl, by decide +kernel, rfl, by decide +kernel, by decide +kernel⟩
theorem scS : FnScope ["self", "other", "top"] ["self", "other"] (defScope sSub) := ⟨rfl, rfl, rfl, by decide +kernel, rfl, by decide +kernel, by decide +kernel⟩
theorem scM : FnScope ["self", "other"] ["self", "other"] (defScope sMul) := ⟨rfl, rfl, rfl, by decide +kernel, rfl, by decide +kernel, by decide +kernel⟩
theorem scN : FnScope ["self"] ["self"] (defScope sNeg) := ⟨rfl, rfl, rfl, by decide +kernel, rfl, by decide +kernel, by decide +kernel⟩
section
variable {f fI C : Addr} {fd fdI : FuncData} {k : Nat} (T : TxtR K mg C) (M : Mk K C fI) (GI : FnOk P w K mg base CX0 1 fI fdI ["self", "top", "bottom"] (spInit C)) (bI : Binds K fdI ["self", "top", "bottom"] [])
include T M GI bI
theorem ok_add (F : Fun K "__add__" "Ratio.__add__" sAdd f fd) : FnOk P w K mg base CX0 3 f fd ["self", "other"] (spAdd C) := by
  refine F.ok scA (fun vs H Q E h => ?_) (fun cdv A outer s H vs Q E hr h => ?_)
  · obtain ⟨p, q, n, d, m, e, rfl, _⟩ := h
    rfl
  · obtain ⟨p, q, n, d, m, e, rfl, ⟨dx, hp⟩, ⟨dy, hq⟩, hd, he, sn, sd, sm, se, kk⟩ := h
    refine ⟨_, pss_cons (ps_set (i := 2) scA.nd rfl (Or.inl rfl) (pe_op op_add (pe_op op_mulW (pe_fld (pv 0) rfl) (pe_fld (pv 1) rfl)) (pe_op op_mulW (pe_fld (pv 1) rfl) (pe_fld (pv 0) rfl))))
      (pss_one (ps_ret (pe_make M GI hr rfl T.mgC bI .nil pass0 (pa_cons (pv 2) (pa_cons (pe_op op_mulW (pe_fld (pv 0) rfl) (pe_fld (pv 1) rfl)) pa_nil))))), ?_⟩
    refine ⟨_, rfl, p, C, dx, _, _, rfl, hp, T.cl, T.nT, rf_top _ _, _, rfl, q, C, dy, _, _, rfl, hq, T.cl, T.nB, rf_bot _ _, _, _, rfl, rfl, Sm.w sn se,
      _, rfl, q, C, dy, _, _, rfl, hq, T.cl, T.nT, rf_top _ _, _, rfl, p, C, dx, _, _, rfl, hp, T.cl, T.nB, rf_bot _ _, _, _, rfl, rfl, Sm.w sm sd, _, _, rfl, rfl, ?_⟩
    refine ⟨_, rfl, _, rfl, p, C, dx, _, _, rfl, hp, T.cl, T.nB, rf_bot _ _, _, rfl, q, C, dy, _, _, rfl, hq, T.cl, T.nB, rf_bot _ _, _, _, rfl, rfl, Sm.w sd se, ?_⟩
    exact make_in (Int.mul_ne_zero hd he) (Sm.md sd se) kk
theorem ok_sub (F : Fun K "__sub__" "Ratio.__sub__" sSub f fd) : FnOk P w K mg base CX0 3 f fd ["self", "other"] (spSub C) := by
  refine F.ok scS (fun vs H Q E h => ?_) (fun cdv A outer s H vs Q E hr h => ?_)
  · obtain ⟨p, q, n, d, m, e, rfl, _⟩ := h
    rfl
  · obtain ⟨p, q, n, d, m, e, rfl, ⟨dx, hp⟩, ⟨dy, hq⟩, hd, he, sn, sd, sm, se, kk⟩ := h
    refine ⟨_, pss_cons (ps_set (i := 2) scS.nd rfl (Or.inl rfl) (pe_op op_sub (pe_op op_mulW (pe_fld (pv 0) rfl) (pe_fld (pv 1) rfl)) (pe_op op_mulW (pe_fld (pv 1) rfl) (pe_fld (pv 0) rfl))))
      (pss_one (ps_ret (pe_make M GI hr rfl T.mgC bI .nil pass0 (pa_cons (pv 2) (pa_cons (pe_op op_mulW (pe_fld (pv 0) rfl) (pe_fld (pv 1) rfl)) pa_nil))))), ?_⟩
    refine ⟨_, rfl, p, C, dx, _, _, rfl, hp, T.cl, T.nT, rf_top _ _, _, rfl, q, C, dy, _, _, rfl, hq, T.cl, T.nB, rf_bot _ _, _, _, rfl, rfl, Sm.w sn se,
      _, rfl, q, C, dy, _, _, rfl, hq, T.cl, T.nT, rf_top _ _, _, rfl, p, C, dx, _, _, rfl, hp, T.cl, T.nB, rf_bot _ _, _, _, rfl, rfl, Sm.w sm sd, _, _, rfl, rfl, ?_⟩
    refine ⟨_, rfl, _, rfl, p, C, dx, _, _, rfl, hp, T.cl, T.nB, rf_bot _ _, _, rfl, q, C, dy, _, _, rfl, hq, T.cl, T.nB, rf_bot _ _, _, _, rfl, rfl, Sm.w sd se, ?_⟩
    exact make_in (Int.mul_ne_zero hd he) (Sm.md sd se) kk
theorem ok_mul (F : Fun K "__mul__" "Ratio.__mul__" sMul f fd) : FnOk P w K mg base CX0 3 f fd ["self", "other"] (spMul C) := by
  refine F.ok scM (fun vs H Q E h => ?_) (fun cdv A outer s H vs Q E hr h => ?_)
  · obtain ⟨p, q, n, d, m, e, rfl, _⟩ := h
    rfl
  · obtain ⟨p, q, n, d, m, e, rfl, ⟨dx, hp⟩, ⟨dy, hq⟩, hd, he, sn, sd, sm, se, kk⟩ := h
    refine ⟨_, pss_one (ps_ret (pe_make M GI hr rfl T.mgC bI .nil pass0 (pa_cons (pe_op op_mulW (pe_fld (pv 0) rfl) (pe_fld (pv 1) rfl)) (pa_cons (pe_op op_mulW (pe_fld (pv 0) rfl) (pe_fld (pv 1) rfl)) pa_nil)))), ?_⟩
    refine ⟨_, rfl, p, C, dx, _, _, rfl, hp, T.cl, T.nT, rf_top _ _, _, rfl, q, C, dy, _, _, rfl, hq, T.cl, T.nT, rf_top _ _, _, _, rfl, rfl, Sm.w sn sm, ?_⟩
    refine ⟨_, rfl, p, C, dx, _, _, rfl, hp, T.cl, T.nB, rf_bot _ _, _, rfl, q, C, dy, _, _, rfl, hq, T.cl, T.nB, rf_bot _ _, _, _, rfl, rfl, Sm.w sd se, ?_⟩
    exact make_in (Int.mul_ne_zero hd he) (Sm.md sd se) kk
theorem ok_neg (F : Fun K "__neg__" "Ratio.__neg__" sNeg f fd) : FnOk P w K mg base CX0 3 f fd ["self"] (spNeg C) := by
  refine F.ok scN (fun vs H Q E h => ?_) (fun cdv A outer s H vs Q E hr h => ?_)
  · obtain ⟨p, n, d, rfl, _⟩ := h
    rfl
  · obtain ⟨p, n, d, rfl, ⟨dx, hp⟩, hd, sd, kk⟩ := h
    refine ⟨_, pss_one (ps_ret (pe_make M GI hr rfl T.mgC bI .nil pass0 (pa_cons (pe_un un_neg (pe_fld (pv 0) rfl)) (pa_cons (pe_fld (pv 0) rfl) pa_nil)))), ?_⟩
    refine ⟨_, rfl, p, C, dx, _, _, rfl, hp, T.cl, T.nT, rf_top _ _, _, rfl, ?_⟩
    refine ⟨_, rfl, p, C, dx, _, _, rfl, hp, T.cl, T.nB, rf_bot _ _, ?_⟩
    exact make_in hd (Nat.lt_trans sd (Nat.pow_lt_pow_right (by decide) (by decide))) kk
end
end
end RX

set_option Elab.async false
set_option maxRecDepth 100000
namespace RX
open PySem L2
/-! ### the draws -/
abbrev sFeed : Stmt := topS 8
abbrev sDraw : Stmt := topS 9
abbrev sGreat : Stmt := topS 10
/-- the feed stands at a: its cells, the next place, what is left of a great cell, the seed -/
structure FeedIs (H : Hp) (a cl : Addr) (cs : List Int) (i p s : Int) : Prop where
  hA : H a = some (.lst [.ref cl, .int i, .int p, .int s])
  hC : H cl = some (.lst (cs.map V.int))
  ne : cl ≠ a
  i0 : 0 ≤ i
  p0 : 0 ≤ p
  s0 : 0 ≤ s
  s1 : s < 2147483648
  len : cs.length ≤ 63
  nn : ∀ c ∈ cs, 0 ≤ c
def FeedAt (H : Hp) (a cl : Addr) : Prop := ∃ cs i p s, FeedIs H a cl cs i p s
/-- all but what stands at a is as it was -/
def But (a : Addr) (H H' : Hp) : Prop := ∀ b o, H b = some o → b ≠ a → H' b = some o
theorem But.refl (a : Addr) (H : Hp) : But a H H := fun _ _ h _ => h
theorem But.trans {a : Addr} {H H1 H2 : Hp} (x : But a H H1) (y : But a H1 H2) : But a H H2 := fun b o h n => y b o (x b o h n) n
theorem Same.but {a : Addr} {H H1 : Hp} (x : Same H H1) : But a H H1 := fun b o h _ => x b o h
theorem But.upd (a : Addr) (H : Hp) (o : HO) : But a H (L2.upd H a o) := fun b o' h n => by rw [upd_ne n]; exact h
theorem FeedIs.same {H H' : Hp} {a cl : Addr} {cs : List Int} {i p s : Int} (h : FeedIs H a cl cs i p s) (x : Same H H') : FeedIs H' a cl cs i p s :=
  ⟨x _ _ h.hA, x _ _ h.hC, h.ne, h.i0, h.p0, h.s0, h.s1, h.len, h.nn⟩
theorem FeedAt.same {H H' : Hp} {a cl : Addr} (h : FeedAt H a cl) (x : Same H H') : FeedAt H' a cl := let ⟨cs, i, p, s, f⟩ := h; ⟨cs, i, p, s, f.same x⟩
/-- the feed's list written anew -/
theorem FeedIs.put {H : Hp} {a cl : Addr} {cs : List Int} {i p s i' p' s' : Int} (h : FeedIs H a cl cs i p s) (i0 : 0 ≤ i') (p0 : 0 ≤ p') (s0 : 0 ≤ s') (s1 : s' < 2147483648) :
    FeedIs (upd H a (.lst [.ref cl, .int i', .int p', .int s'])) a cl cs i' p' s' :=
  ⟨upd_same, by rw [upd_ne h.ne]; exact h.hC, h.ne, i0, p0, s0, s1, h.len, h.nn⟩
def spFeed (K : PySem.W.Frag) : Sp := fun vs H Q _ => ∃ (a : Addr) (ns : List Int), vs = [.ref a] ∧ SqL K H a (ns.map V.int) ∧ ns.length ≤ 63 ∧ ∀ (r cl : Addr) (H' : Hp), Same H H' → H r = none → H cl = none → FeedAt H' r cl → Q (.ref r) H'
def spDraw : Sp := fun vs H Q _ => ∃ (a cl : Addr) (m : Int), vs = [.ref a, .int m] ∧ FeedAt H a cl ∧ 0 < m ∧ m < 1073741824 ∧ ∀ (r : Int) (H' : Hp), 0 ≤ r → r < m → FeedAt H' a cl → But a H H' → Q (.int r) H'
def spGreat : Sp := fun vs H Q _ => ∃ (a cl : Addr) (m : Int), vs = [.ref a, .int m] ∧ FeedAt H a cl ∧ 0 ≤ m ∧ m ≤ 100 ∧ ∀ (r : Int) (H' : Hp), 0 ≤ r → r < 100000 ^ m.toNat → FeedAt H' a cl → But a H H' → Q (.int r) H'
structure TxtL (mg : Str → Option Value) : Prop where
  abs : mg "abs" = none
  len : mg "len" = none
  int : mg "int" = none
  max : mg "max" = none
  range : mg "range" = none
  isi : mg "isinstance" = none
  bool : mg "bool" = none
section
variable {P : Program} {w : World} {K : PySem.W.Frag} {mg : Str → Option Value} {base : Heap}
theorem scFe : FnScope ["script", "cell"] ["script"] (defScope sFeed) := ⟨rfl, rfl, rfl, by decide +kernel, rfl, by decide +kernel, by decide +kernel⟩
theorem cut63 (xs : List V) (h : xs.length ≤ 63) : cutV xs none (some 63) = xs := by
  unfold cutV
  rw [show HT.sIx xs.length xs.length (some 63) = min 63 xs.length from HT.sIx_nat xs.length xs.length 63, HT.sIx_none, Nat.min_eq_right h, List.drop_zero, Nat.sub_zero]
  exact List.take_length
theorem ok_feed {f : Addr} {fd : FuncData} (F : Fun K "_law_feed" "_law_feed" sFeed f fd) (T : TxtL mg) : FnOk P w K mg base CX0 1 f fd ["script"] (spFeed K) := by
  refine F.ok scFe (fun vs H Q E h => ?_) (fun cdv A outer s H vs Q E hr h => ?_)
  · obtain ⟨a, ns, rfl, _⟩ := h
    rfl
  · obtain ⟨a, ns, rfl, hS, hl, k⟩ := h
    refine ⟨_, pss_one (ps_ret (pe_lst (pa_cons (pe_lc (own := [("cell", 1)]) (g := gName 1) (tt := tYes) rfl scFe.nd (pi_list (pe_slice sl_list (pv 0) po_none (po_some pe_int))) (blkOk_by (N := ["script", "cell"]) (sc := defScope sFeed) (by decide +kernel))
        (fun _ _ _ _ _ => pg_name (i := 1) scFe.nd rfl (Or.inl rfl)) (fun _ _ _ _ _ => pts_nil) (fun _ _ _ _ _ => pe_callB call_abs (by rfl) T.abs (by decide +kernel) (pa_cons (pv 1) pa_nil)))
      (pa_cons pe_int (pa_cons pe_int (pa_cons (pe_op op_add pe_int (pe_callB call_len_seq (by rfl) T.len PySem.boot_len (pa_cons (pv 0) pa_nil))) pa_nil)))))), ?_⟩
    refine ⟨.ref a, rfl, 63, rfl, a, ns.map V.int, rfl, hS, fun c nc => ?_⟩
    rw [cut63 _ (by rw [List.length_map]; exact hl)]
    have s1 : Same H (upd H c (.lst (ns.map V.int))) := Same.upd nc
    refine ⟨c, rfl, ⟨_, SqL.of upd_same⟩, fun D nD => ?_⟩
    have ncD : c ≠ D := ne_of_none upd_same nD
    have nD0 : H D = none := s1.free nD
    refine lc_list (K := K) (a := c) (xs := ns.map V.int) (fun i H2 => Same H H2 ∧ H2 c = some (.lst (ns.map V.int)) ∧ H2 D = some (.lst (((ns.take i).map fun z => if z < 0 then -z else z).map V.int))) ⟨s1.trans (Same.upd nD), by rw [upd_ne ncD]; exact upd_same, upd_same⟩ (fun i H2 _ h => SqL.of h.2.1) ?_ ?_
    · rintro i x H2 hi ⟨s2, hq, hD⟩
      obtain ⟨z, hz, rfl⟩ : ∃ z, ns[i]? = some z ∧ V.int z = x := by
        rw [List.getElem?_map] at hi
        cases e : ns[i]? with
        | none => rw [e] at hi; cases hi
        | some z => rw [e] at hi; exact ⟨z, rfl, Option.some.inj hi⟩
      have hi63 : i < ns.length := (List.getElem?_eq_some_iff.mp hz).1
      refine ⟨rfl, ?_⟩
      refine ⟨_, rfl, z, rfl, _, hD, ?_, ?_⟩
      · rw [List.length_map, List.length_map, List.length_take]
        exact Nat.lt_of_le_of_lt (Nat.min_le_left _ _) (small1000 (by omega))
      · refine ⟨fun b o e => ?_, by rw [upd_ne ncD]; exact hq, ?_⟩
        · rw [upd_ne (ne_of_none e nD0)]
          exact s2 _ _ e
        · rw [upd_same, List.take_add_one, hz, List.map_append, List.map_append]
          rfl
    · rintro H2 ⟨s2, hq, hD⟩
      rw [List.length_map, List.take_length] at hD
      refine ⟨_, rfl, a, _, rfl, .inl (s2.seq hS), _, _, rfl, rfl, (by show 4 ≤ sizeLine; decide), fun r nr => ?_⟩
      have nDr : D ≠ r := ne_of_none hD nr
      refine k r D _ (s2.trans (Same.upd nr)) (s2.free nr) nD0 ⟨ns.map fun z => if z < 0 then -z else z, 0, 0, _, upd_same, by rw [upd_ne nDr]; exact hD, nDr, by omega, by omega, ?_, ?_, ?_, ?_⟩
      · rw [List.length_map]; omega
      · rw [List.length_map]; omega
      · rw [List.length_map]; exact hl
      · intro c hc
        obtain ⟨z, _, rfl⟩ := List.mem_map.mp hc
        show (0 : Int) ≤ if z < 0 then -z else z
        split <;> omega
theorem scDr : FnScope ["feed", "limit", "cells", "cell", "found"] ["feed", "limit"] (defScope sDraw) := ⟨rfl, rfl, rfl, by decide +kernel, rfl, by decide +kernel, by decide +kernel⟩
theorem ok_draw {f : Addr} {fd : FuncData} (F : Fun K "_law_draw" "_law_draw" sDraw f fd) (T : TxtL mg) : FnOk P w K mg base CX0 1 f fd ["feed", "limit"] spDraw := by
  refine F.ok scDr (fun vs H Q E h => ?_) (fun cdv A outer s H vs Q E hr h => ?_)
  · obtain ⟨a, cl, m, rfl, _⟩ := h
    rfl
  · obtain ⟨a, cl, m, rfl, ⟨cs, i, p, s, f0⟩, hm, hm2, k⟩ := h
    refine ⟨_, pss_cons (ps_set (i := 2) scDr.nd rfl (.inl rfl) (pe_ix ix_list (pv 0) pe_int (fun _ _ => rfl)))
      (C8.pss_cut (ps_if (PW.pt (pw_and (pt_cmpR op_eq (pe_ix ix_list (pv 0) pe_int (fun _ _ => rfl)) pe_int (nomark _)) (pw_and1 (pt_cmpR op_lt (pe_ix ix_list (pv 0) pe_int (fun _ _ => rfl)) (pe_callB call_len_seq (by rfl) T.len PySem.boot_len (pa_cons (pv 2) pa_nil)) (nomark _)))))
        (pss_cons (ps_set (i := 3) scDr.nd rfl (.inl rfl) (pe_ix ix_list (pv 2) (pe_ix ix_list (pv 0) pe_int (fun _ _ => rfl)) (fun _ _ => rfl)))
        (pss_cons (ps_asg (pe_op op_add (pe_ix ix_list (pv 0) pe_int (fun _ _ => rfl)) pe_int) (pg_sub (pv 0) pe_int set_list))
        (pss_one (ps_if (pt_cmpR op_ge (pv 3) (pe_op op_pow pe_int pe_int) (nomark _))
          (pss_one (ps_asg (pv 3) (pg_sub (pv 0) pe_int set_list)))
          (pss_one (ps_asg (pe_op op_mod (pe_callTy call_int1 (by rfl) T.int (by decide +kernel) (pa_cons (pe_op op_add (pe_op op_add (pe_op op_mul (pe_ix ix_list (pv 0) pe_int (fun _ _ => rfl)) pe_int) (pe_op op_mul (pv 3) pe_int)) pe_int) pa_nil)) pe_int) (pg_sub (pv 0) pe_int set_list)))))))
        pss_nil)
      (C8.pss_cut (ps_if (pt_cmpR op_gt (pe_ix ix_list (pv 0) pe_int (fun _ _ => rfl)) pe_int (nomark _))
        (pss_cons (ps_set (i := 4) scDr.nd rfl (.inl rfl) (pe_op op_mod (pe_callTy call_int1 (by rfl) T.int (by decide +kernel) (pa_cons (pe_ix ix_list (pv 0) pe_int (fun _ _ => rfl)) pa_nil)) (pv 1)))
        (pss_cons (ps_asg (pe_op op_fdiv (pe_ix ix_list (pv 0) pe_int (fun _ _ => rfl)) (pv 1)) (pg_sub (pv 0) pe_int set_list))
        (pss_one (ps_ret (pv 4)))))
        pss_nil)
      (pss_cons (ps_asg (pe_op op_mod (pe_callTy call_int1 (by rfl) T.int (by decide +kernel) (pa_cons (pe_op op_add (pe_op op_mul (pe_ix ix_list (pv 0) pe_int (fun _ _ => rfl)) pe_int) pe_int) pa_nil)) pe_int) (pg_sub (pv 0) pe_int set_list))
      (pss_one (ps_ret (pe_op op_mod (pe_callTy call_int1 (by rfl) T.int (by decide +kernel) (pa_cons (pe_op op_add (pe_op op_fdiv (pe_op op_mul (pe_ix ix_list (pv 0) pe_int (fun _ _ => rfl)) (pe_ix ix_list (pv 0) pe_int (fun _ _ => rfl))) pe_int) (pe_op op_fdiv (pe_ix ix_list (pv 0) pe_int (fun _ _ => rfl)) pe_int)) pa_nil)) (pv 1))))))), ?_⟩
    -- cells = feed[0]
    refine ⟨_, rfl, a, _, 0, _, rfl, rfl, SqL.of f0.hA, rfl, ?_⟩
    -- behind the first if: the feed again
    refine ⟨fun σ' H' => ∃ x2 x3 x4, σ' = [some (.ref a), some (.int m), x2, x3, x4] ∧ FeedAt H' a cl ∧ But a H H', ?_, ?_⟩
    · refine ⟨_, rfl, a, _, 2, _, rfl, rfl, SqL.of f0.hA, rfl, rfl, _, rfl, ?_⟩
      refine ite2 (fun _ => ?_) (fun _ => ?_)
      · refine ⟨_, rfl, a, _, 1, _, rfl, rfl, SqL.of f0.hA, rfl, _, rfl, cl, _, rfl, .inl (SqL.of f0.hC), _, _, rfl, rfl, _, rfl, ?_⟩
        refine ite2 (fun z => ?_) (fun _ => ?_)
        · have z := of_decide_eq_true z
          rw [List.length_map] at z
          have hi : (i.toNat : Int) = i := Int.toNat_of_nonneg f0.i0
          have hlt : i.toNat < cs.length := by omega
          have hc : (cs.map V.int)[i.toNat]? = some (V.int cs[i.toNat]) := by
            rw [List.getElem?_map, List.getElem?_eq_getElem hlt]
            rfl
          have c0 : 0 ≤ cs[i.toNat] := f0.nn _ (List.getElem_mem hlt)
          generalize hcv : cs[i.toNat] = cv at hc c0
          have f1 := f0.put (i' := i + 1) (by have := f0.i0; omega) f0.p0 f0.s0 f0.s1
          refine ⟨_, rfl, _, rfl, a, _, 1, _, rfl, rfl, SqL.of f0.hA, rfl, cl, _, i, _, rfl, rfl, SqL.of f0.hC, at_of hi.symm hc, ?_⟩
          refine ⟨_, rfl, a, _, 1, _, rfl, rfl, SqL.of f0.hA, rfl, _, _, rfl, rfl, _, rfl, a, _, _, 1, rfl, rfl, f0.hA, rfl, ?_⟩
          refine ⟨_, rfl, _, _, rfl, rfl, (by show (0 : Int) ≤ 18 ∧ (18 : Int) ≤ 1000000 ∧ (10 : Int).natAbs < 2 ^ 64; decide), _, _, rfl, rfl, _, rfl, ?_⟩
          refine ite2 (fun _ => ?_) (fun _ => ?_)
          · refine ⟨_, rfl, _, rfl, a, _, _, 2, rfl, rfl, upd_same, rfl, ?_⟩
            exact ⟨_, _, _, rfl, ⟨cs, _, _, _, f1.put (i' := i + 1) (p' := cv) (s' := s) (by have := f0.i0; omega) c0 f0.s0 f0.s1⟩, (But.upd a H _).trans (But.upd a _ _)⟩
          · refine ⟨_, rfl, a, _, 3, _, rfl, rfl, SqL.of upd_same, rfl, _, _, rfl, rfl, .inr (by decide), _, rfl, _, _, rfl, rfl, .inr (by decide), _, _, rfl, rfl, _, _, rfl, rfl, .inl ⟨_, rfl, _, _, rfl, rfl, (by show (0 : Int) < 2147483647; decide), _, rfl, a, _, _, 3, rfl, rfl, upd_same, rfl, ?_⟩⟩
            refine ⟨_, _, _, rfl, ⟨cs, _, _, _, f1.put (i' := i + 1) (p' := p) (by have := f0.i0; omega) f0.p0 (Int.emod_nonneg _ (by decide)) (Int.lt_trans (Int.emod_lt_of_pos _ (by decide)) (by decide))⟩, (But.upd a H _).trans (But.upd a _ _)⟩
        · exact ⟨_, _, _, rfl, ⟨cs, i, p, s, f0⟩, But.refl a H⟩
      · exact ⟨_, _, _, rfl, ⟨cs, i, p, s, f0⟩, But.refl a H⟩
    · rintro σ' H1 ⟨x2, x3, x4, rfl, ⟨cs, i, p, s, f1⟩, b1⟩
      refine ⟨fun σ' H' => ∃ x2 x3 x4, σ' = [some (.ref a), some (.int m), x2, x3, x4] ∧ FeedAt H' a cl ∧ But a H H', ?_, ?_⟩
      · refine ⟨_, rfl, a, _, 2, _, rfl, rfl, SqL.of f1.hA, rfl, _, _, rfl, rfl, _, rfl, ?_⟩
        refine ite2 (fun z => ?_) (fun _ => ?_)
        · refine ⟨_, rfl, a, _, 2, _, rfl, rfl, SqL.of f1.hA, rfl, .inl ⟨_, rfl, _, rfl, _, _, rfl, rfl, hm, ?_⟩⟩
          refine ⟨_, rfl, a, _, 2, _, rfl, rfl, SqL.of f1.hA, rfl, _, rfl, _, _, rfl, rfl, ⟨hm, hm2⟩, _, rfl, a, _, _, 2, rfl, rfl, f1.hA, rfl, ?_⟩
          refine ⟨_, rfl, ?_⟩
          exact k _ _ (Int.emod_nonneg _ (by omega)) (Int.emod_lt_of_pos _ hm) ⟨cs, _, _, _, f1.put (i' := i) (s' := s) f1.i0 (Int.ediv_nonneg f1.p0 (by omega)) f1.s0 f1.s1⟩ (b1.trans (But.upd a _ _))
        · exact ⟨_, _, _, rfl, ⟨cs, i, p, s, f1⟩, b1⟩
      · rintro σ' H2 ⟨x2, x3, x4, rfl, ⟨cs, i, p, s, f2⟩, b2⟩
        refine ⟨_, rfl, a, _, 3, _, rfl, rfl, SqL.of f2.hA, rfl, _, _, rfl, rfl, .inr (by decide), _, _, rfl, rfl, .inl ⟨_, rfl, _, _, rfl, rfl, (by show (0 : Int) < 2147483629; decide), _, rfl, a, _, _, 3, rfl, rfl, f2.hA, rfl, ?_⟩⟩
        have e0 := Int.emod_nonneg (s * 16807 + 12345) (show (2147483629 : Int) ≠ 0 by decide)
        have e1 := Int.emod_lt_of_pos (s * 16807 + 12345) (show (0 : Int) < 2147483629 by decide)
        have f3 := f2.put (i' := i) (p' := p) (s' := (s * 16807 + 12345) % 2147483629) f2.i0 f2.p0 e0 (by omega)
        refine ⟨_, rfl, a, _, 3, _, rfl, rfl, SqL.of upd_same, rfl, _, rfl, a, _, 3, _, rfl, rfl, SqL.of upd_same, rfl, _, _, rfl, rfl, .inl ⟨by omega, by omega⟩, _, _, rfl, rfl, ⟨by decide, by decide⟩,
          _, rfl, a, _, 3, _, rfl, rfl, SqL.of upd_same, rfl, _, _, rfl, rfl, ⟨by decide, by decide⟩, _, _, rfl, rfl, .inl ⟨_, rfl, _, rfl, _, _, rfl, rfl, hm, ?_⟩⟩
        exact k _ _ (Int.emod_nonneg _ (by omega)) (Int.emod_lt_of_pos _ hm) ⟨cs, _, _, _, f3⟩ (b2.trans (But.upd a _ _))
end
end RX

set_option Elab.async false
set_option maxRecDepth 100000
namespace RX
open PySem L2
abbrev sPair : Stmt := topS 11
abbrev sSum : Stmt := topS 12
abbrev sBy : Stmt := topS 13
abbrev sIsInt : Stmt := topS 14
abbrev sSame : Stmt := topS 15
/-- a pair of ints stands at p -/
def PairAt (H : Hp) (p : Addr) (n d : Int) : Prop := H p = some (.tup [.int n, .int d])
theorem PairAt.same {H H' : Hp} {p : Addr} {n d : Int} (h : PairAt H p n d) (s : Same H H') : PairAt H' p n d := s _ _ h
theorem PairAt.t {K : PySem.W.Frag} {H : Hp} {p : Addr} {n d : Int} (h : PairAt H p n d) : SqT K H p [.int n, .int d] := SqT.of h
def spPair : Sp := fun vs H Q _ => ∃ (t b : Int), vs = [.int t, .int b] ∧ b ≠ 0 ∧ Md b ∧ ∀ (r : Addr) (H' : Hp), Same H H' → H r = none → PairAt H' r (RT.top t b) (RT.bot t b) → Q (.ref r) H'
/-- of two pairs -/
def spBinP (g g' : Int → Int → Int → Int → Int) : Sp := fun vs H Q _ => ∃ (p q : Addr) (n d m e : Int), vs = [.ref p, .ref q] ∧ PairAt H p n d ∧ PairAt H q m e ∧ d ≠ 0 ∧ e ≠ 0 ∧ Sm n ∧ Sm d ∧ Sm m ∧ Sm e ∧
  ∀ (r : Addr) (H' : Hp), Same H H' → H r = none → PairAt H' r (RT.top (g n d m e) (g' n d m e)) (RT.bot (g n d m e) (g' n d m e)) → Q (.ref r) H'
def spSum : Sp := spBinP (fun n d m e => n * e + m * d) (fun _ d _ e => d * e)
def spBy : Sp := spBinP (fun n _ m _ => n * m) (fun _ d _ e => d * e)
def spIsInt : Sp := fun vs H Q _ => ∃ n : Int, vs = [.int n] ∧ Q (.bl true) H
/-- a Ratio and a pair that are the same -/
def spSame (C : Addr) : Sp := fun vs H Q _ => ∃ (p q : Addr) (n d : Int), vs = [.ref p, .ref q] ∧ RatAt C H p n d ∧ PairAt H q n d ∧ Q (.bl true) H
section
variable {P : Program} {w : World} {K : PySem.W.Frag} {mg : Str → Option Value} {base : Heap}
theorem scG : FnScope ["feed", "parts", "found", "k"] ["feed", "parts"] (defScope sGreat) := ⟨rfl, rfl, rfl, by decide +kernel, rfl, by decide +kernel, by decide +kernel⟩
theorem ok_great {f fD : Addr} {fd fdD : FuncData} (F : Fun K "_law_great" "_law_great" sGreat f fd) (T : TxtL mg) (GD : FnOk P w K mg base CX0 1 fD fdD ["feed", "limit"] spDraw) (mD : mg "_law_draw" = some (.ref fD)) (kD : PySem.W.keepIn K (.ref fD) = true) (bD : Binds K fdD ["feed", "limit"] []) :
    FnOk P w K mg base CX0 2 f fd ["feed", "parts"] spGreat := by
  refine F.ok scG (fun vs H Q E h => ?_) (fun cdv A outer s H vs Q E hr h => ?_)
  · obtain ⟨a, cl, m, rfl, _⟩ := h
    rfl
  · obtain ⟨a, cl, m, rfl, hF, h0, h1, k⟩ := h
    refine ⟨_, pss_cons (ps_set (i := 2) scG.nd rfl (.inl rfl) pe_int)
      (pss_cons (ps_for PassesOwn.never rfl (pi_range1 rfl T.range (pa_cons (pv 1) pa_nil)) (pg_name (i := 3) scG.nd rfl (.inl rfl))
        (pss_one (ps_set (i := 2) scG.nd rfl (.inl rfl) (pe_op op_add (pe_op op_mul (pv 2) pe_int) (pe_call GD hr rfl mD kD bD .nil pass0 (pa_cons (pv 0) (pa_cons pe_int pa_nil)))))))
      (pss_one (ps_ret (pv 2)))), ?_⟩
    refine ⟨_, rfl, m, rfl, by omega, by omega, for_range (n := m.toNat) (fun i σ H' => ∃ (x : Int) (y : Option V), σ = [some (.ref a), some (.int m), some (.int x), y] ∧ 0 ≤ x ∧ x < 100000 ^ i ∧ FeedAt H' a cl ∧ But a H H')
      ⟨0, none, rfl, by omega, by decide, hF, But.refl a H⟩ ?_ ?_⟩
    · rintro i σ H' hi ⟨x, y, rfl, x0, x1, f1, b1⟩
      refine ⟨_, rfl, _, _, rfl, rfl, .inr (by decide), _, rfl, a, cl, _, rfl, f1, by decide, by decide, fun r H2 r0 r1 f2 b2 => ?_⟩
      refine ⟨_, _, rfl, rfl, _, _, rfl, by omega, ?_, f2, b1.trans b2⟩
      rw [Int.pow_succ]
      omega
    · rintro σ H' ⟨x, y, rfl, x0, x1, f1, b1⟩
      exact ⟨_, rfl, k x H' x0 x1 f1 b1⟩
theorem scP : FnScope ["above", "below", "one", "two"] ["above", "below"] (defScope sPair) := ⟨rfl, rfl, rfl, by decide +kernel, rfl, by decide +kernel, by decide +kernel⟩
theorem ok_pair {f : Addr} {fd : FuncData} (F : Fun K "_law_pair" "_law_pair" sPair f fd) (T : TxtL mg) : FnOk P w K mg base CX0 1 f fd ["above", "below"] spPair := by
  refine F.ok scP (fun vs H Q E h => ?_) (fun cdv A outer s H vs Q E hr h => ?_)
  · obtain ⟨t, b, rfl, _⟩ := h
    rfl
  · obtain ⟨t, b, rfl, hb, hz, k⟩ := h
    refine ⟨_, pss_cons (ps_set (i := 2) scP.nd rfl (.inl rfl) (pe_callB call_abs (by rfl) T.abs (by decide +kernel) (pa_cons (pv 0) pa_nil)))
      (pss_cons (ps_set (i := 3) scP.nd rfl (.inl rfl) (pe_callB call_abs (by rfl) T.abs (by decide +kernel) (pa_cons (pv 1) pa_nil)))
      (pss_cons (ps_while PassesOwn.never (pt_cmpR op_gt (pv 3) pe_int (nomark _))
        (pss_one (ps_par (i := 2) (j := 3) (by rfl) scP.nd rfl rfl (by decide) rfl rfl (pa_cons (pv 3) (pa_cons (pe_op op_mod (pe_callTy call_int1 (by rfl) T.int (by decide +kernel) (pa_cons (pv 2) pa_nil)) (pv 3)) pa_nil)) (by rfl))))
      (C8.pss_cut (ps_if (pt_cmpR op_lt (pv 1) pe_int (nomark _)) (pss_one (ps_set (i := 2) scP.nd rfl (.inl rfl) (pe_op op_sub pe_int (pv 2)))) pss_nil)
      (pss_one (ps_ret (pe_tup (pa_cons (pe_op op_fdivZ (pv 0) (pv 2)) (pa_cons (pe_op op_fdivZ (pv 1) (pv 2)) pa_nil)))))))), ?_⟩
    refine ⟨_, rfl, t, rfl, _, rfl, b, rfl, ?_⟩
    have ab : ∀ x : Int, 0 ≤ (if x < 0 then -x else x) ∧ (if x < 0 then -x else x).natAbs = x.natAbs := fun x => by split <;> omega
    refine while_by (fun σ H' => ∃ x y : Int, σ = [some (.int t), some (.int b), some (.int x), some (.int y)] ∧ H' = H ∧ 0 ≤ x ∧ 0 ≤ y ∧ Nat.gcd x.natAbs y.natAbs = Nat.gcd t.natAbs b.natAbs)
      (fun σ _ => match σ with | [_, _, _, some (.int y)] => y.toNat | _ => 0)
      ⟨_, _, rfl, rfl, (ab t).1, (ab b).1, by rw [(ab t).2, (ab b).2]⟩ ?_ (fun σ H' R R' h q => by
        obtain ⟨v, hv, i, j, e1, e2, kk, e3, q⟩ := q
        exact ⟨v, hv, i, j, e1, e2, kk, e3, h _ _ q⟩)
    rintro σ H' ⟨x, y, rfl, rfl, x0, y0, g⟩
    refine ⟨_, rfl, _, _, rfl, rfl, _, rfl, ?_⟩
    refine ite2 (fun z => ?_) (fun z => ?_)
    · have z := of_decide_eq_true z
      refine ⟨_, rfl, _, rfl, .inl ⟨_, rfl, _, rfl, _, _, rfl, rfl, z, ?_⟩⟩
      have m0 := Int.emod_nonneg x (show y ≠ 0 by omega)
      have m1 := Int.emod_lt_of_pos x z
      refine ⟨_, _, rfl, ⟨_, _, rfl, rfl, y0, m0, ?_⟩, ?_⟩
      · rw [Nat.gcd_comm, ← g]
        have : (x % y).natAbs = x.natAbs % y.natAbs := by
          rw [Int.natAbs_emod_of_nonneg x0]
        rw [this, Nat.gcd_comm x.natAbs, Nat.gcd_rec y.natAbs x.natAbs]
      · show (x % y).toNat < y.toNat
        omega
    · have z : ¬ y > 0 := fun h => z (decide_eq_true h)
      have y00 : y = 0 := by omega
      subst y00
      have hg : x = RT.gg t b := by
        unfold RT.gg
        rw [← g]
        show x = ((Nat.gcd x.natAbs 0 : Nat) : Int)
        rw [Nat.gcd_zero_right]
        omega
      refine ⟨fun σ' H2 => σ' = [some (.int t), some (.int b), some (.int (RT.byv t b)), some (.int 0)] ∧ H2 = H', ?_, ?_⟩
      · refine ⟨_, rfl, _, _, rfl, rfl, _, rfl, ?_⟩
        refine ite2 (fun z => ?_) (fun z => ?_)
        · have z := of_decide_eq_true z
          refine ⟨_, rfl, _, _, rfl, rfl, ?_, rfl⟩
          have e : (0 : Int) - x = RT.byv t b := by
            unfold RT.byv
            rw [if_neg (by omega), hg]
            omega
          show [some (V.int t), some (V.int b), some (V.int (0 - x)), some (V.int 0)] = _
          rw [e]
        · have z : ¬ b < 0 := fun h => z (decide_eq_true h)
          refine ⟨?_, rfl⟩
          have e : x = RT.byv t b := by
            unfold RT.byv
            rw [if_pos (by omega), hg]
          rw [e]
      · rintro σ' H' ⟨rfl, rfl⟩
        have hdiv : ∀ x : Int, CDivZ x (RT.byv t b) := fun x => divZ (RT.byv_ne hb) (Nat.lt_of_le_of_lt (RT.byv_le hb) hz) (by decide) (by decide)
        refine ⟨_, rfl, _, rfl, _, _, rfl, rfl, hdiv t, _, rfl, _, rfl, _, _, rfl, rfl, hdiv b, (by show 2 ≤ sizeLine; decide), fun r nr => ?_⟩
        exact k r _ (Same.upd nr) nr upd_same
/-! sums and products of pairs -/
theorem scSu : FnScope ["one", "two"] ["one", "two"] (defScope sSum) := ⟨rfl, rfl, rfl, by decide +kernel, rfl, by decide +kernel, by decide +kernel⟩
theorem scB : FnScope ["one", "two"] ["one", "two"] (defScope sBy) := ⟨rfl, rfl, rfl, by decide +kernel, rfl, by decide +kernel, by decide +kernel⟩
theorem ok_sum {f fP : Addr} {fd fdP : FuncData} (F : Fun K "_law_sum" "_law_sum" sSum f fd) (GP : FnOk P w K mg base CX0 1 fP fdP ["above", "below"] spPair) (mP : mg "_law_pair" = some (.ref fP)) (kP : PySem.W.keepIn K (.ref fP) = true) (bP : Binds K fdP ["above", "below"] []) :
    FnOk P w K mg base CX0 2 f fd ["one", "two"] spSum := by
  refine F.ok scSu (fun vs H Q E h => ?_) (fun cdv A outer s H vs Q E hr h => ?_)
  · obtain ⟨p, q, n, d, m, e, rfl, _⟩ := h
    rfl
  · obtain ⟨p, q, n, d, m, e, rfl, hp, hq, hd, he, sn, sd, sm, se, kk⟩ := h
    refine ⟨_, C8.pss_cut (ps_if (PW.pt (pw_and (pt_cmpR op_eq (pe_ix ix_tup (pv 0) pe_int (fun _ _ => rfl)) pe_int (nomark _)) (pw_and1 (pt_cmpR op_eq (pe_ix ix_tup (pv 1) pe_int (fun _ _ => rfl)) pe_int (nomark _)))))
        (pss_one (ps_ret (pe_tup (pa_cons (pe_op op_add (pe_ix ix_tup (pv 0) pe_int (fun _ _ => rfl)) (pe_ix ix_tup (pv 1) pe_int (fun _ _ => rfl))) (pa_cons pe_int pa_nil))))) pss_nil)
      (pss_one (ps_ret (pe_call GP hr rfl mP kP bP .nil pass0 (pa_cons (pe_op op_add (pe_op op_mulW (pe_ix ix_tup (pv 0) pe_int (fun _ _ => rfl)) (pe_ix ix_tup (pv 1) pe_int (fun _ _ => rfl))) (pe_op op_mulW (pe_ix ix_tup (pv 1) pe_int (fun _ _ => rfl)) (pe_ix ix_tup (pv 0) pe_int (fun _ _ => rfl))))
        (pa_cons (pe_op op_mulW (pe_ix ix_tup (pv 0) pe_int (fun _ _ => rfl)) (pe_ix ix_tup (pv 1) pe_int (fun _ _ => rfl))) pa_nil))))), ?_⟩
    refine ⟨fun σ' H2 => σ' = [some (.ref p), some (.ref q)] ∧ H2 = H, ?_, ?_⟩
    · refine ⟨_, rfl, p, _, 1, _, rfl, rfl, hp.t, rfl, rfl, _, rfl, ?_⟩
      refine ite2 (fun z => ?_) (fun _ => ⟨rfl, rfl⟩)
      have z := of_decide_eq_true z
      injection z with z
      subst z
      refine ⟨_, rfl, q, _, 1, _, rfl, rfl, hq.t, rfl, rfl, _, rfl, ?_⟩
      refine ite2 (fun z => ?_) (fun _ => ⟨rfl, rfl⟩)
      have z := of_decide_eq_true z
      injection z with z
      subst z
      refine ⟨_, rfl, p, _, 0, _, rfl, rfl, hp.t, rfl, _, rfl, q, _, 0, _, rfl, rfl, hq.t, rfl, _, _, rfl, rfl, (by show 2 ≤ sizeLine; decide), fun r nr => ?_⟩
      refine kk r _ (Same.upd nr) nr ?_
      have o := RT.one (n * 1 + m * 1)
      show upd H r _ r = some (.tup [.int (RT.top (n * 1 + m * 1) 1), .int (RT.bot (n * 1 + m * 1) 1)])
      rw [upd_same, o.1, o.2, Int.mul_one, Int.mul_one]
    · rintro σ' H2 ⟨rfl, rfl⟩
      refine ⟨_, rfl, p, _, 0, _, rfl, rfl, hp.t, rfl, _, rfl, q, _, 1, _, rfl, rfl, hq.t, rfl, _, _, rfl, rfl, Sm.w sn se, _, rfl, q, _, 0, _, rfl, rfl, hq.t, rfl, _, rfl, p, _, 1, _, rfl, rfl, hp.t, rfl, _, _, rfl, rfl, Sm.w sm sd, _, _, rfl, rfl, _, rfl, p, _, 1, _, rfl, rfl, hp.t, rfl, _, rfl, q, _, 1, _, rfl, rfl, hq.t, rfl, _, _, rfl, rfl, Sm.w sd se, ?_⟩
      exact ⟨_, _, rfl, Int.mul_ne_zero hd he, Sm.md sd se, kk⟩
theorem ok_by {f fP : Addr} {fd fdP : FuncData} (F : Fun K "_law_by" "_law_by" sBy f fd) (GP : FnOk P w K mg base CX0 1 fP fdP ["above", "below"] spPair) (mP : mg "_law_pair" = some (.ref fP)) (kP : PySem.W.keepIn K (.ref fP) = true) (bP : Binds K fdP ["above", "below"] []) :
    FnOk P w K mg base CX0 2 f fd ["one", "two"] spBy := by
  refine F.ok scB (fun vs H Q E h => ?_) (fun cdv A outer s H vs Q E hr h => ?_)
  · obtain ⟨p, q, n, d, m, e, rfl, _⟩ := h
    rfl
  · obtain ⟨p, q, n, d, m, e, rfl, hp, hq, hd, he, sn, sd, sm, se, kk⟩ := h
    refine ⟨_, C8.pss_cut (ps_if (PW.pt (pw_and (pt_cmpR op_eq (pe_ix ix_tup (pv 0) pe_int (fun _ _ => rfl)) pe_int (nomark _)) (pw_and1 (pt_cmpR op_eq (pe_ix ix_tup (pv 1) pe_int (fun _ _ => rfl)) pe_int (nomark _)))))
        (pss_one (ps_ret (pe_tup (pa_cons (pe_op op_mulW (pe_ix ix_tup (pv 0) pe_int (fun _ _ => rfl)) (pe_ix ix_tup (pv 1) pe_int (fun _ _ => rfl))) (pa_cons pe_int pa_nil))))) pss_nil)
      (pss_one (ps_ret (pe_call GP hr rfl mP kP bP .nil pass0 (pa_cons (pe_op op_mulW (pe_ix ix_tup (pv 0) pe_int (fun _ _ => rfl)) (pe_ix ix_tup (pv 1) pe_int (fun _ _ => rfl)))
        (pa_cons (pe_op op_mulW (pe_ix ix_tup (pv 0) pe_int (fun _ _ => rfl)) (pe_ix ix_tup (pv 1) pe_int (fun _ _ => rfl))) pa_nil))))), ?_⟩
    refine ⟨fun σ' H2 => σ' = [some (.ref p), some (.ref q)] ∧ H2 = H, ?_, ?_⟩
    · refine ⟨_, rfl, p, _, 1, _, rfl, rfl, hp.t, rfl, rfl, _, rfl, ?_⟩
      refine ite2 (fun z => ?_) (fun _ => ⟨rfl, rfl⟩)
      have z := of_decide_eq_true z
      injection z with z
      subst z
      refine ⟨_, rfl, q, _, 1, _, rfl, rfl, hq.t, rfl, rfl, _, rfl, ?_⟩
      refine ite2 (fun z => ?_) (fun _ => ⟨rfl, rfl⟩)
      have z := of_decide_eq_true z
      injection z with z
      subst z
      refine ⟨_, rfl, p, _, 0, _, rfl, rfl, hp.t, rfl, _, rfl, q, _, 0, _, rfl, rfl, hq.t, rfl, _, _, rfl, rfl, Sm.w sn sm, (by show 2 ≤ sizeLine; decide), fun r nr => ?_⟩
      refine kk r _ (Same.upd nr) nr ?_
      have o := RT.one (n * m)
      show upd H r _ r = some (.tup [.int (RT.top (n * m) 1), .int (RT.bot (n * m) 1)])
      rw [upd_same, o.1, o.2]
    · rintro σ' H2 ⟨rfl, rfl⟩
      refine ⟨_, rfl, p, _, 0, _, rfl, rfl, hp.t, rfl, _, rfl, q, _, 0, _, rfl, rfl, hq.t, rfl, _, _, rfl, rfl, Sm.w sn sm, _, rfl, p, _, 1, _, rfl, rfl, hp.t, rfl, _, rfl, q, _, 1, _, rfl, rfl, hq.t, rfl, _, _, rfl, rfl, Sm.w sd se, ?_⟩
      exact ⟨_, _, rfl, Int.mul_ne_zero hd he, Sm.md sd se, kk⟩
end
end RX

set_option Elab.async false
set_option maxRecDepth 100000
namespace RX
open PySem L2
abbrev sFrac : Stmt := topS 16
abbrev sMinus : Stmt := topS 17
abbrev sChain : Stmt := topS 18
theorem But.free {a cl : Addr} {H H1 : Hp} {r : Addr} (x : But a H H1) (h : H1 r = none) (f : FeedAt H1 a cl) : H r = none := by
  cases q : H r with
  | none => rfl
  | some o =>
    by_cases e : r = a
    · subst e
      obtain ⟨cs, i, p, s, f⟩ := f
      rw [f.hA] at h
      cases h
    · rw [x r o q e] at h
      cases h
def spMinus : Sp := fun vs H Q _ => ∃ (p : Addr) (n d : Int), vs = [.ref p] ∧ PairAt H p n d ∧ ∀ (r : Addr) (H' : Hp), Same H H' → H r = none → PairAt H' r (0 - n) d → Q (.ref r) H'
def spFrac : Sp := fun vs H Q _ => ∃ (a cl : Addr) (m : Int), vs = [.ref a, .int m] ∧ FeedAt H a cl ∧ 1 ≤ m ∧ m ≤ 100 ∧
  ∀ (r : Addr) (t b : Int) (H' : Hp), FeedAt H' a cl → But a H H' → H r = none → r ≠ a → PairAt H' r t b → b ≠ 0 → t.natAbs ≤ 100000 ^ (m.toNat + 1) → b.natAbs ≤ 100000 ^ (m.toNat + 1) → Q (.ref r) H'
section
variable {P : Program} {w : World} {K : PySem.W.Frag} {mg : Str → Option Value} {base : Heap}
theorem scIs : FnScope ["actual"] ["actual"] (defScope sIsInt) := ⟨rfl, rfl, rfl, by decide +kernel, rfl, by decide +kernel, by decide +kernel⟩
theorem ok_isInt {f : Addr} {fd : FuncData} (F : Fun K "_law_is_integer" "_law_is_integer" sIsInt f fd) (T : TxtL mg) : FnOk P w K mg base CX0 1 f fd ["actual"] spIsInt := by
  refine F.ok scIs (fun vs H Q E h => ?_) (fun cdv A outer s H vs Q E hr h => ?_)
  · obtain ⟨n, rfl, _⟩ := h
    rfl
  · obtain ⟨n, rfl, k⟩ := h
    refine ⟨_, pss_one (ps_ret (pe_and (pe_callB call_isi (by rfl) T.isi (by decide +kernel) (pa_cons (pv 0) (pa_cons (pe_bltn (v := .ty "int") (by rfl) T.int (by decide +kernel) rfl) pa_nil)))
      (pe_one (pe_not (pe_callB call_isi (by rfl) T.isi (by decide +kernel) (pa_cons (pv 0) (pa_cons (pe_bltn (v := .ty "bool") (by rfl) T.bool (by decide +kernel) rfl) pa_nil))))))), ?_⟩
    refine ⟨_, rfl, _, _, _, _, true, rfl, .ty _, .base (.int n), kit_ty (by decide +kernel), true, rfl, ?_⟩
    refine iteT ?_
    exact ⟨_, rfl, _, _, _, _, false, rfl, .ty _, .base (.int n), kit_ty (by decide +kernel), false, rfl, k⟩
theorem scSa : FnScope ["actual", "due"] ["actual", "due"] (defScope sSame) := ⟨rfl, rfl, rfl, by decide +kernel, rfl, by decide +kernel, by decide +kernel⟩
theorem ok_same {f fI C : Addr} {fd fdI : FuncData} (F : Fun K "_law_same" "_law_same" sSame f fd) (T : TxtL mg) (R : TxtR K mg C) (c : C8.InsC K C) (GI : FnOk P w K mg base CX0 1 fI fdI ["actual"] spIsInt) (mI : mg "_law_is_integer" = some (.ref fI)) (kI : PySem.W.keepIn K (.ref fI) = true) (bI : Binds K fdI ["actual"] []) :
    FnOk P w K mg base CX0 2 f fd ["actual", "due"] (spSame C) := by
  refine F.ok scSa (fun vs H Q E h => ?_) (fun cdv A outer s H vs Q E hr h => ?_)
  · obtain ⟨p, q, n, d, rfl, _⟩ := h
    rfl
  · obtain ⟨p, q, n, d, rfl, ⟨dx, hp⟩, hq, k⟩ := h
    refine ⟨_, pss_cons (ps_if (pt_not (pt_val (pe_callB (C8.call_isC c) (by rfl) T.isi (by decide +kernel) (pa_cons (pv 0) (pa_cons (pe_glob (v := .ref C) (by rfl) R.mgC rfl) pa_nil))))) (pss_one ps_never) pss_nil)
      (pss_cons (ps_if (PW.pt (pw_or (pt_not (pt_val (pe_call GI hr rfl mI kI bI .nil pass0 (pa_cons (pe_fld (pv 0) rfl) pa_nil)))) (pw_or1 (pt_not (pt_val (pe_call GI hr rfl mI kI bI .nil pass0 (pa_cons (pe_fld (pv 0) rfl) pa_nil)))))))
        (pss_one ps_never) pss_nil)
      (pss_one (ps_ret (pe_and (pe_cmpR op_eq (pe_fld (pv 0) rfl) (pe_ix ix_tup (pv 1) pe_int (fun _ _ => rfl)) (nomark _)) (pe_one (pe_cmpR op_eq (pe_fld (pv 0) rfl) (pe_ix ix_tup (pv 1) pe_int (fun _ _ => rfl)) (nomark _))))))), ?_⟩
    refine ⟨_, rfl, p, dx, _, rfl, hp, true, rfl, ?_⟩
    refine iteF ?_
    refine ⟨_, rfl, p, C, dx, _, _, rfl, hp, R.cl, R.nT, rf_top _ _, n, rfl, true, rfl, ?_⟩
    refine iteF ?_
    refine ⟨_, rfl, p, C, dx, _, _, rfl, hp, R.cl, R.nB, rf_bot _ _, d, rfl, true, rfl, ?_⟩
    refine iteF ?_
    refine ⟨_, rfl, p, C, dx, _, _, rfl, hp, R.cl, R.nT, rf_top _ _, _, rfl, q, _, 0, _, rfl, rfl, hq.t, rfl, rfl, true, (by rw [decide_eq_true rfl]), ?_⟩
    refine iteT ?_
    refine ⟨_, rfl, p, C, dx, _, _, rfl, hp, R.cl, R.nB, rf_bot _ _, _, rfl, q, _, 1, _, rfl, rfl, hq.t, rfl, rfl, ?_⟩
    show Q (V.bl (decide (V.int d = V.int d))) H
    rw [decide_eq_true rfl]
    exact k
theorem scMi : FnScope ["one"] ["one"] (defScope sMinus) := ⟨rfl, rfl, rfl, by decide +kernel, rfl, by decide +kernel, by decide +kernel⟩
theorem ok_minus {f : Addr} {fd : FuncData} (F : Fun K "_law_minus" "_law_minus" sMinus f fd) : FnOk P w K mg base CX0 1 f fd ["one"] spMinus := by
  refine F.ok scMi (fun vs H Q E h => ?_) (fun cdv A outer s H vs Q E hr h => ?_)
  · obtain ⟨p, n, d, rfl, _⟩ := h
    rfl
  · obtain ⟨p, n, d, rfl, hp, k⟩ := h
    refine ⟨_, pss_one (ps_ret (pe_tup (pa_cons (pe_op op_sub pe_int (pe_ix ix_tup (pv 0) pe_int (fun _ _ => rfl))) (pa_cons (pe_ix ix_tup (pv 0) pe_int (fun _ _ => rfl)) pa_nil)))), ?_⟩
    refine ⟨_, rfl, p, _, 0, _, rfl, rfl, hp.t, rfl, _, _, rfl, rfl, _, rfl, p, _, 1, _, rfl, rfl, hp.t, rfl, (by show 2 ≤ sizeLine; decide), fun r nr => ?_⟩
    exact k r _ (Same.upd nr) nr upd_same
theorem scFr : FnScope ["feed", "parts", "kind", "above", "below", "factor"] ["feed", "parts"] (defScope sFrac) := ⟨rfl, rfl, rfl, by decide +kernel, rfl, by decide +kernel, by decide +kernel⟩
theorem ok_frac {f fD fG : Addr} {fd fdD fdG : FuncData} (F : Fun K "_law_fraction" "_law_fraction" sFrac f fd) (T : TxtL mg) (GD : FnOk P w K mg base CX0 1 fD fdD ["feed", "limit"] spDraw) (mD : mg "_law_draw" = some (.ref fD)) (kD : PySem.W.keepIn K (.ref fD) = true) (bD : Binds K fdD ["feed", "limit"] [])
    (GG : FnOk P w K mg base CX0 2 fG fdG ["feed", "parts"] spGreat) (mG : mg "_law_great" = some (.ref fG)) (kG : PySem.W.keepIn K (.ref fG) = true) (bG : Binds K fdG ["feed", "parts"] []) :
    FnOk P w K mg base CX0 3 f fd ["feed", "parts"] spFrac := by
  refine F.ok scFr (fun vs H Q E h => ?_) (fun cdv A outer s H vs Q E hr h => ?_)
  · obtain ⟨a, cl, m, rfl, _⟩ := h
    rfl
  · obtain ⟨a, cl, m, rfl, hF, h0, h1, k⟩ := h
    have hr1 : Room 1 _ := hr.mono (by decide)
    refine ⟨_, pss_cons (ps_set (i := 2) scFr.nd rfl (.inl rfl) (pe_call GD hr1 rfl mD kD bD .nil pass0 (pa_cons (pv 0) (pa_cons pe_int pa_nil))))
      (pss_cons (ps_set (i := 3) scFr.nd rfl (.inl rfl) pe_int)
      (C8.pss_cut (ps_if (pt_chain op_lt op_lt pe_int (pv 2) pe_int) (pss_one (ps_set (i := 3) scFr.nd rfl (.inl rfl) (pe_op op_sub (pe_call GD hr1 rfl mD kD bD .nil pass0 (pa_cons (pv 0) (pa_cons pe_int pa_nil))) pe_int))) pss_nil)
      (C8.pss_cut (ps_if (pt_cmpR op_gt (pv 2) pe_int (nomark _)) (pss_one (ps_set (i := 3) scFr.nd rfl (.inl rfl) (pe_op op_mul (pe_call GG hr rfl mG kG bG .nil pass0 (pa_cons (pv 0) (pa_cons (pv 1) pa_nil))) (pe_op op_sub pe_int (pe_op op_mul pe_int (pe_call GD hr1 rfl mD kD bD .nil pass0 (pa_cons (pv 0) (pa_cons pe_int pa_nil)))))))) pss_nil)
      (pss_cons (ps_set (i := 4) scFr.nd rfl (.inl rfl) (pe_op op_add pe_int (pe_call GD hr1 rfl mD kD bD .nil pass0 (pa_cons (pv 0) (pa_cons pe_int pa_nil)))))
      (C8.pss_cut (ps_if (pt_cmpR op_eq (pe_call GD hr1 rfl mD kD bD .nil pass0 (pa_cons (pv 0) (pa_cons pe_int pa_nil))) pe_int (nomark _)) (pss_one (ps_set (i := 4) scFr.nd rfl (.inl rfl) (pe_callB (call_max2 rfl) (by rfl) T.max (by decide +kernel) (pa_cons pe_int (pa_cons (pe_call GG hr rfl mG kG bG .nil pass0 (pa_cons (pv 0) (pa_cons (pv 1) pa_nil))) pa_nil))))) pss_nil)
      (C8.pss_cut (ps_if (pt_cmpR op_eq (pe_call GD hr1 rfl mD kD bD .nil pass0 (pa_cons (pv 0) (pa_cons pe_int pa_nil))) pe_int (nomark _)) (pss_one (ps_set (i := 4) scFr.nd rfl (.inl rfl) (pe_op op_sub pe_int (pv 4)))) pss_nil)
      (pss_cons (ps_set (i := 5) scFr.nd rfl (.inl rfl) pe_int)
      (C8.pss_cut (ps_if (pt_cmpR op_eq (pe_call GD hr1 rfl mD kD bD .nil pass0 (pa_cons (pv 0) (pa_cons pe_int pa_nil))) pe_int (nomark _)) (pss_one (ps_set (i := 5) scFr.nd rfl (.inl rfl) (pe_op op_add pe_int (pe_call GD hr1 rfl mD kD bD .nil pass0 (pa_cons (pv 0) (pa_cons pe_int pa_nil)))))) pss_nil)
      (pss_one (ps_ret (pe_tup (pa_cons (pe_op op_mul (pv 3) (pv 5)) (pa_cons (pe_op op_mul (pv 4) (pv 5)) pa_nil))))))))))))), ?_⟩
    have hL : (100000 : Nat) ≤ 100000 ^ m.toNat := by
      have : m.toNat = (m.toNat - 1) + 1 := by omega
      rw [this, Nat.pow_succ]
      exact Nat.le_mul_of_pos_left _ (Nat.pow_pos (by decide))
    generalize hLv : (100000 : Nat) ^ m.toNat = L at hL
    have hLz : (100000 : Int) ^ m.toNat = (L : Int) := by rw [← hLv, Int.natCast_pow]; rfl
    refine ⟨_, rfl, a, cl, 6, rfl, hF, by decide, by decide, fun kd H1 _ _ f1 b1 => ?_⟩
    refine ⟨fun σ' H' => ∃ x : Int, σ' = [some (.ref a), some (.int m), some (.int kd), some (.int x), none, none] ∧ x.natAbs ≤ L ∧ FeedAt H' a cl ∧ But a H H', ?_, ?_⟩
    · refine ⟨_, rfl, _, _, rfl, rfl, _, rfl, ?_⟩
      refine ite2 (fun _ => ?_) (fun _ => ⟨_, rfl, iteF ⟨0, rfl, by omega, f1, b1⟩⟩)
      refine ⟨_, _, rfl, rfl, _, rfl, ?_⟩
      refine ite2 (fun _ => ?_) (fun _ => ⟨0, rfl, by omega, f1, b1⟩)
      refine ⟨_, rfl, a, cl, 25, rfl, f1, by decide, by decide, fun r H2 r0 r1 f2 b2 => ⟨_, _, rfl, rfl, r - 12, rfl, by omega, f2, b1.trans b2⟩⟩
    rintro σ1 H2 ⟨x, rfl, hx, f2, b2⟩
    refine ⟨fun σ' H' => ∃ x : Int, σ' = [some (.ref a), some (.int m), some (.int kd), some (.int x), none, none] ∧ x.natAbs ≤ L ∧ FeedAt H' a cl ∧ But a H H', ?_, ?_⟩
    · refine ⟨_, rfl, _, _, rfl, rfl, _, rfl, ?_⟩
      refine ite2 (fun _ => ?_) (fun _ => ⟨x, rfl, hx, f2, b2⟩)
      refine ⟨_, rfl, _, rfl, a, cl, m, rfl, f2, by omega, h1, fun g H3 g0 g1 f3 b3 => ?_⟩
      refine ⟨_, rfl, a, cl, 2, rfl, f3, by decide, by decide, fun r H4 r0 r1 f4 b4 => ⟨_, _, rfl, rfl, .inl (by decide), _, _, rfl, rfl, _, _, rfl, rfl, .inr (by omega), _, rfl, ?_, f4, b2.trans (b3.trans b4)⟩⟩
      rw [hLz] at g1
      have : r = 0 ∨ r = 1 := by omega
      rcases this with rfl | rfl
      · show (g * (1 - 2 * 0)).natAbs ≤ L; omega
      · show (g * (1 - 2 * 1)).natAbs ≤ L; omega
    rintro σ2 H3 ⟨x, rfl, hx, f3, b3⟩
    refine ⟨_, rfl, a, cl, 12, rfl, f3, by decide, by decide, fun r H4 r0 r1 f4 b4 => ⟨_, _, rfl, rfl, ?_⟩⟩
    have b4 := b3.trans b4
    refine ⟨fun σ' H' => ∃ y : Int, σ' = [some (.ref a), some (.int m), some (.int kd), some (.int x), some (.int y), none] ∧ 1 ≤ y ∧ y.natAbs ≤ L ∧ FeedAt H' a cl ∧ But a H H', ?_, ?_⟩
    · refine ⟨_, rfl, a, cl, 2, rfl, f4, by decide, by decide, fun z H5 _ _ f5 b5 => ⟨rfl, _, rfl, ?_⟩⟩
      refine ite2 (fun _ => ?_) (fun _ => ⟨1 + r, rfl, by omega, by omega, f5, b4.trans b5⟩)
      refine ⟨_, rfl, _, rfl, a, cl, m, rfl, f5, by omega, h1, fun g H6 g0 g1 f6 b6 => ⟨_, _, rfl, _, rfl, ?_, ?_, f6, b4.trans (b5.trans b6)⟩⟩
      · split <;> omega
      · rw [hLz] at g1
        split <;> omega
    rintro σ3 H5 ⟨y, rfl, hy, hyL, f5, b5⟩
    refine ⟨fun σ' H' => ∃ y : Int, σ' = [some (.ref a), some (.int m), some (.int kd), some (.int x), some (.int y), none] ∧ y ≠ 0 ∧ y.natAbs ≤ L ∧ FeedAt H' a cl ∧ But a H H', ?_, ?_⟩
    · refine ⟨_, rfl, a, cl, 3, rfl, f5, by decide, by decide, fun z H6 _ _ f6 b6 => ⟨rfl, _, rfl, ?_⟩⟩
      refine ite2 (fun _ => ?_) (fun _ => ⟨y, rfl, by omega, hyL, f6, b5.trans b6⟩)
      exact ⟨_, rfl, _, _, rfl, rfl, _, rfl, by omega, by omega, f6, b5.trans b6⟩
    rintro σ4 H6 ⟨y, rfl, hy, hyL, f6, b6⟩
    refine ⟨fun σ' H' => ∃ z : Int, σ' = [some (.ref a), some (.int m), some (.int kd), some (.int x), some (.int y), some (.int z)] ∧ 1 ≤ z ∧ z ≤ 100000 ∧ FeedAt H' a cl ∧ But a H H', ?_, ?_⟩
    · refine ⟨_, rfl, a, cl, 2, rfl, f6, by decide, by decide, fun z H7 _ _ f7 b7 => ⟨rfl, _, rfl, ?_⟩⟩
      refine ite2 (fun _ => ?_) (fun _ => ⟨1, rfl, by omega, by omega, f7, b6.trans b7⟩)
      exact ⟨_, rfl, a, cl, 99999, rfl, f7, by decide, by decide, fun g H8 g0 g1 f8 b8 => ⟨_, _, rfl, rfl, _, rfl, by omega, by omega, f8, b6.trans (b7.trans b8)⟩⟩
    rintro σ5 H7 ⟨z, rfl, hz1, hz2, f7, b7⟩
    refine ⟨_, rfl, _, rfl, _, _, rfl, rfl, .inr (by omega), _, rfl, _, rfl, _, _, rfl, rfl, .inr (by omega), (by show 2 ≤ sizeLine; decide), fun r nr => ?_⟩
    have hzn : z.natAbs ≤ 100000 := by omega
    have nra : r ≠ a := fun e => by
      subst e
      obtain ⟨cs, i, p, s, f⟩ := f7
      rw [f.hA] at nr
      cases nr
    refine k r _ _ _ (f7.same (Same.upd nr)) (b7.trans (Same.but (Same.upd nr))) (b7.free nr f7) nra upd_same ?_ ?_ ?_
    · exact Int.mul_ne_zero hy (by omega)
    · rw [Nat.pow_succ, hLv, Int.natAbs_mul]
      exact Nat.mul_le_mul hx hzn
    · rw [Nat.pow_succ, hLv, Int.natAbs_mul]
      exact Nat.mul_le_mul hyL hzn
end
end RX

set_option Elab.async false
set_option maxRecDepth 100000
namespace RX
open PySem L2
/-- of at most 500 bits -/
def Ti (x : Int) : Prop := x.natAbs < 2 ^ 500
theorem pw {a b : Nat} (h : a ≤ b) {x : Nat} (hx : x < 2 ^ a) : x < 2 ^ b := Nat.lt_of_lt_of_le hx (Nat.pow_le_pow_right (by decide) h)
theorem mulB {x y : Int} {a b : Nat} (ha : x.natAbs < 2 ^ a) (hb : y.natAbs < 2 ^ b) : (x * y).natAbs < 2 ^ (a + b) := wide_lt ha hb
theorem addB {x y : Int} {a : Nat} (ha : x.natAbs < 2 ^ a) (hb : y.natAbs < 2 ^ a) : (x + y).natAbs < 2 ^ (a + 1) := by
  have := Int.natAbs_add_le x y
  rw [Nat.pow_succ]
  omega
theorem topB {t b : Int} {a : Nat} (h : b ≠ 0) (ha : t.natAbs < 2 ^ a) : (RT.top t b).natAbs < 2 ^ a := Nat.lt_of_le_of_lt (RT.top_le h) ha
theorem botB {t b : Int} {a : Nat} (h : b ≠ 0) (ha : b.natAbs < 2 ^ a) : (RT.bot t b).natAbs < 2 ^ a := Nat.lt_of_le_of_lt (RT.bot_le h) ha
theorem botN {t b : Int} (h : b ≠ 0) : RT.bot t b ≠ 0 := by have := RT.bot_pos (t := t) h; omega
/-- the operators of Ratio as the top has made them -/
structure Ops (P : Program) (w : World) (K : PySem.W.Frag) (mg : Str → Option Value) (base : Heap) (C fA fS fM fN : Addr) (dA dS dM dN : FuncData) : Prop where
  oA : OpOf K C (PySem.dunder "add") fA
  oS : OpOf K C (PySem.dunder "sub") fS
  oM : OpOf K C (PySem.dunder "mul") fM
  nA : PySem.W.findIn K (.ref C) "__neg__" = some (some (.ref fN))
  nF : PySem.W.isFn K (.ref fN) = true
  gA : FnOk P w K mg base CX0 3 fA dA ["self", "other"] (spAdd C)
  gS : FnOk P w K mg base CX0 3 fS dS ["self", "other"] (spSub C)
  gM : FnOk P w K mg base CX0 3 fM dM ["self", "other"] (spMul C)
  gN : FnOk P w K mg base CX0 3 fN dN ["self"] (spNeg C)
  bA : Binds K dA ["self", "other"] []
  bS : Binds K dS ["self", "other"] []
  bM : Binds K dM ["self", "other"] []
  bN : Binds K dN ["self"] []
/-- a def of the law that is called by its name -/
structure CalN (P : Program) (w : World) (K : PySem.W.Frag) (mg : Str → Option Value) (base : Heap) (x : Str) (k : Nat) (ps : List Str) (sp : Sp) (f : Addr) (fd : FuncData) : Prop where
  G : FnOk P w K mg base CX0 k f fd ps sp
  m : mg x = some (.ref f)
  kp : PySem.W.keepIn K (.ref f) = true
  b : Binds K fd ps []
/-- Ratios and pairs, three of each, the same numbers -/
structure Trip (C : Addr) (H : Hp) (M D : Addr) (m q : Nat → Addr) (n d : Nat → Int) : Prop where
  hM : H M = some (.lst [.ref (m 0), .ref (m 1), .ref (m 2)])
  hD : H D = some (.lst [.ref (q 0), .ref (q 1), .ref (q 2)])
  r : ∀ i, i < 3 → RatAt C H (m i) (n i) (d i)
  p : ∀ i, i < 3 → PairAt H (q i) (n i) (d i)
  d0 : ∀ i, i < 3 → 0 < d i
  co : ∀ i, i < 3 → Nat.Coprime (n i).natAbs (d i).natAbs
theorem Trip.same {C : Addr} {H H' : Hp} {M D : Addr} {m q : Nat → Addr} {n d : Nat → Int} (t : Trip C H M D m q n d) (s : Same H H') : Trip C H' M D m q n d :=
  ⟨s _ _ t.hM, s _ _ t.hD, fun i h => (t.r i h).same s, fun i h => (t.p i h).same s, t.d0, t.co⟩
theorem at3 {m : Nat → Addr} {i : Nat} (h : i < 3) : atI [V.ref (m 0), V.ref (m 1), V.ref (m 2)] (i : Int) = some (.ref (m i)) := by
  match i, h with
  | 0, _ => rfl
  | 1, _ => rfl
  | 2, _ => rfl
def spChain (C : Addr) : Sp := fun vs H Q _ => ∃ (M D : Addr) (m q : Nat → Addr) (n d : Nat → Int), vs = [.ref M, .ref D] ∧ Trip C H M D m q n d ∧ (∀ i, i < 3 → Ti (n i) ∧ Ti (d i)) ∧ ∀ H' : Hp, Same H H' → Q (.bl true) H'
abbrev sLaw : Stmt := topS 19
section
variable {P : Program} {w : World} {K : PySem.W.Frag} {mg : Str → Option Value} {base : Heap}
theorem scCh : FnScope ["made", "dues", "left", "right", "due"] ["made", "dues"] (defScope sChain) := ⟨rfl, rfl, rfl, by decide +kernel, rfl, by decide +kernel, by decide +kernel⟩
theorem ok_chain {f C fA fS fM fN fSu fB fSa : Addr} {fd dA dS dM dN dSu dB dSa : FuncData} (F : Fun K "_law_chain" "_law_chain" sChain f fd) (O : Ops P w K mg base C fA fS fM fN dA dS dM dN)
    (cS : CalN P w K mg base "_law_sum" 2 ["one", "two"] spSum fSu dSu) (cB : CalN P w K mg base "_law_by" 2 ["one", "two"] spBy fB dB) (cE : CalN P w K mg base "_law_same" 2 ["actual", "due"] (spSame C) fSa dSa) :
    FnOk P w K mg base CX0 4 f fd ["made", "dues"] (spChain C) := by
  refine F.ok scCh (fun vs H Q E h => ?_) (fun cdv A outer s H vs Q E hr h => ?_)
  · obtain ⟨M, D, m, q, n, d, rfl, _⟩ := h
    rfl
  · obtain ⟨M, D, m, q, n, d, rfl, t, hT, k⟩ := h
    have hr2 : Room 2 _ := hr.mono (by decide)
    have n0 : ∀ i, i < 3 → d i ≠ 0 := fun i h => by have := t.d0 i h; omega
    have sm : ∀ {x : Int}, Ti x → Sm x := fun h => pw (by decide) h
    refine ⟨_, pss_cons (ps_set (i := 2) scCh.nd rfl (.inl rfl) (pe_op (op_own O.oM O.gM hr O.bM pass0) (pe_op (op_own O.oA O.gA hr O.bA pass0) (pe_ix ix_list (pv 0) pe_int (fun _ _ => rfl)) (pe_ix ix_list (pv 0) pe_int (fun _ _ => rfl))) (pe_ix ix_list (pv 0) pe_int (fun _ _ => rfl))))
      (pss_cons (ps_set (i := 3) scCh.nd rfl (.inl rfl) (pe_op (op_own O.oA O.gA hr O.bA pass0) (pe_op (op_own O.oM O.gM hr O.bM pass0) (pe_ix ix_list (pv 0) pe_int (fun _ _ => rfl)) (pe_ix ix_list (pv 0) pe_int (fun _ _ => rfl))) (pe_op (op_own O.oM O.gM hr O.bM pass0) (pe_ix ix_list (pv 0) pe_int (fun _ _ => rfl)) (pe_ix ix_list (pv 0) pe_int (fun _ _ => rfl)))))
      (pss_cons (ps_set (i := 4) scCh.nd rfl (.inl rfl) (pe_call cB.G hr2 rfl cB.m cB.kp cB.b .nil pass0 (pa_cons (pe_call cS.G hr2 rfl cS.m cS.kp cS.b .nil pass0 (pa_cons (pe_ix ix_list (pv 1) pe_int (fun _ _ => rfl)) (pa_cons (pe_ix ix_list (pv 1) pe_int (fun _ _ => rfl)) pa_nil))) (pa_cons (pe_ix ix_list (pv 1) pe_int (fun _ _ => rfl)) pa_nil))))
      (pss_one (ps_ret (pe_and (pe_call cE.G hr2 rfl cE.m cE.kp cE.b .nil pass0 (pa_cons (pv 2) (pa_cons (pv 4) pa_nil))) (pe_one (pe_call cE.G hr2 rfl cE.m cE.kp cE.b .nil pass0 (pa_cons (pv 3) (pa_cons (pv 4) pa_nil))))))))), ?_⟩
    have b01 := addB (mulB (hT 0 (by decide)).1 (hT 1 (by decide)).2) (mulB (hT 1 (by decide)).1 (hT 0 (by decide)).2)
    have d01 := mulB (hT 0 (by decide)).2 (hT 1 (by decide)).2
    have z01 : d 0 * d 1 ≠ 0 := Int.mul_ne_zero (n0 0 (by decide)) (n0 1 (by decide))
    have z02 : d 0 * d 2 ≠ 0 := Int.mul_ne_zero (n0 0 (by decide)) (n0 2 (by decide))
    have z12 : d 1 * d 2 ≠ 0 := Int.mul_ne_zero (n0 1 (by decide)) (n0 2 (by decide))
    have bt : Sm (RT.top (n 0 * d 1 + n 1 * d 0) (d 0 * d 1)) := pw (by decide) (topB z01 b01)
    have bb : Sm (RT.bot (n 0 * d 1 + n 1 * d 0) (d 0 * d 1)) := pw (by decide) (botB z01 d01)
    have p0t : Sm (RT.top (n 0 * n 2) (d 0 * d 2)) := pw (by decide) (topB z02 (mulB (hT 0 (by decide)).1 (hT 2 (by decide)).1))
    have p0b : Sm (RT.bot (n 0 * n 2) (d 0 * d 2)) := pw (by decide) (botB z02 (mulB (hT 0 (by decide)).2 (hT 2 (by decide)).2))
    have p1t : Sm (RT.top (n 1 * n 2) (d 1 * d 2)) := pw (by decide) (topB z12 (mulB (hT 1 (by decide)).1 (hT 2 (by decide)).1))
    have p1b : Sm (RT.bot (n 1 * n 2) (d 1 * d 2)) := pw (by decide) (botB z12 (mulB (hT 1 (by decide)).2 (hT 2 (by decide)).2))
    have ins : ∀ {H' : Hp} {p : Addr} {x y : Int}, RatAt C H' p x y → ∃ dx, H' p = some (.ins C dx (rf x y)) := fun h => h
    -- left
    obtain ⟨x0, e0⟩ := t.r 0 (by decide)
    obtain ⟨x1, e1⟩ := t.r 1 (by decide)
    refine ⟨_, rfl, M, _, 0, _, rfl, rfl, SqL.of t.hM, rfl, _, rfl, M, _, 1, _, rfl, rfl, SqL.of t.hM, rfl, _, _, _, _, _, _, rfl, rfl, e0, e1,
      _, _, _, _, _, _, rfl, ⟨x0, e0⟩, ⟨x1, e1⟩, n0 0 (by decide), n0 1 (by decide), sm (hT 0 (by decide)).1, sm (hT 0 (by decide)).2, sm (hT 1 (by decide)).1, sm (hT 1 (by decide)).2, fun r1 H1 s1 _ a1 => ⟨⟨r1, rfl⟩, ?_⟩⟩
    have t1 := t.same s1
    obtain ⟨y1, g1⟩ := a1
    obtain ⟨x2, e2⟩ := t1.r 2 (by decide)
    refine ⟨_, rfl, M, _, 2, _, rfl, rfl, SqL.of t1.hM, rfl, _, _, _, _, _, _, rfl, rfl, g1, e2, _, _, _, _, _, _, rfl, ⟨y1, g1⟩, ⟨x2, e2⟩, botN z01, n0 2 (by decide), bt, bb, sm (hT 2 (by decide)).1, sm (hT 2 (by decide)).2, fun r2 H2 s2 _ a2 => ⟨⟨r2, rfl⟩, ?_⟩⟩
    have t2 := t1.same s2
    -- right
    obtain ⟨x0, e0⟩ := t2.r 0 (by decide)
    obtain ⟨x2, e2⟩ := t2.r 2 (by decide)
    refine ⟨_, rfl, M, _, 0, _, rfl, rfl, SqL.of t2.hM, rfl, _, rfl, M, _, 2, _, rfl, rfl, SqL.of t2.hM, rfl, _, _, _, _, _, _, rfl, rfl, e0, e2,
      _, _, _, _, _, _, rfl, ⟨x0, e0⟩, ⟨x2, e2⟩, n0 0 (by decide), n0 2 (by decide), sm (hT 0 (by decide)).1, sm (hT 0 (by decide)).2, sm (hT 2 (by decide)).1, sm (hT 2 (by decide)).2, fun r3 H3 s3 _ a3 => ⟨⟨r3, rfl⟩, ?_⟩⟩
    have t3 := t2.same s3
    obtain ⟨x1, e1⟩ := t3.r 1 (by decide)
    obtain ⟨x2, e2⟩ := t3.r 2 (by decide)
    refine ⟨_, rfl, M, _, 1, _, rfl, rfl, SqL.of t3.hM, rfl, _, rfl, M, _, 2, _, rfl, rfl, SqL.of t3.hM, rfl, _, _, _, _, _, _, rfl, rfl, e1, e2,
      _, _, _, _, _, _, rfl, ⟨x1, e1⟩, ⟨x2, e2⟩, n0 1 (by decide), n0 2 (by decide), sm (hT 1 (by decide)).1, sm (hT 1 (by decide)).2, sm (hT 2 (by decide)).1, sm (hT 2 (by decide)).2, fun r4 H4 s4 _ a4 => ⟨⟨r4, rfl⟩, ?_⟩⟩
    have t4 := t3.same s4
    obtain ⟨y3, g3⟩ := a3.same s4
    obtain ⟨y4, g4⟩ := a4
    refine ⟨_, _, _, _, _, _, rfl, rfl, g3, g4, _, _, _, _, _, _, rfl, ⟨y3, g3⟩, ⟨y4, g4⟩, botN z02, botN z12, p0t, p0b, p1t, p1b, fun r5 H5 s5 _ a5 => ⟨⟨r5, rfl⟩, ?_⟩⟩
    have t5 := t4.same s5
    -- due
    refine ⟨_, rfl, D, _, 0, _, rfl, rfl, SqL.of t5.hD, rfl, _, rfl, D, _, 1, _, rfl, rfl, SqL.of t5.hD, rfl, _, _, _, _, _, _, rfl, t5.p 0 (by decide), t5.p 1 (by decide), n0 0 (by decide), n0 1 (by decide), sm (hT 0 (by decide)).1, sm (hT 0 (by decide)).2, sm (hT 1 (by decide)).1, sm (hT 1 (by decide)).2, fun r6 H6 s6 _ a6 => ?_⟩
    have t6 := t5.same s6
    refine ⟨_, rfl, D, _, 2, _, rfl, rfl, SqL.of t6.hD, rfl, _, _, _, _, _, _, rfl, a6, t6.p 2 (by decide), botN z01, n0 2 (by decide), bt, bb, sm (hT 2 (by decide)).1, sm (hT 2 (by decide)).2, fun r7 H7 s7 _ a7 => ?_⟩
    have c := RT.chain (a := n 0) (b := d 0) (c := n 1) (d := d 1) (e := n 2) (f := d 2) (n0 0 (by decide)) (n0 1 (by decide)) (n0 2 (by decide))
    have a2 := (((((a2.same s3).same s4).same s5).same s6).same s7)
    have a5 := ((a5.same s6).same s7)
    refine ⟨_, rfl, _, rfl, _, _, _, _, rfl, a2, a7, true, rfl, ?_⟩
    refine iteT ?_
    refine ⟨_, rfl, _, rfl, _, _, _, _, rfl, a5, ?_, ?_⟩
    · have c1 := c.1
      have c2 := c.2
      show PairAt H7 r7 _ _
      rw [c1, c2]
      exact a7
    · exact k H7 ((((((s1.trans s2).trans s3).trans s4).trans s5).trans s6).trans s7)
end
end RX

set_option Elab.async false
set_option maxRecDepth 100000
namespace RX
open PySem L2
theorem map_range_ext {α : Type} {i : Nat} {f g : Nat → α} (h : ∀ j, j < i → f j = g j) : (List.range i).map f = (List.range i).map g :=
  List.map_congr_left fun j hj => h j (List.mem_range.mp hj)
/-- one more at the end -/
def ext {α : Type} (f : Nat → α) (i : Nat) (x : α) : Nat → α := fun j => if j = i then x else f j
theorem ext_same {α : Type} (f : Nat → α) (i : Nat) (x : α) : ext f i x i = x := if_pos rfl
theorem ext_lt {α : Type} (f : Nat → α) {i j : Nat} (x : α) (h : j < i) : ext f i x j = f j := if_neg (by omega)
theorem map_ext {α : Type} (f : Nat → α) (i : Nat) (x : α) : (List.range (i + 1)).map (ext f i x) = (List.range i).map f ++ [x] := by
  rw [List.range_succ, List.map_append]
  rw [map_range_ext (f := ext f i x) (g := f) fun j h => ext_lt f x h]
  show _ ++ [ext f i x i] = _
  rw [ext_same]
/-- the pairs of raw -/
structure RawIs (H : Hp) (R : Addr) (p : Nat → Addr) (t b : Nat → Int) (B : Nat) : Prop where
  hR : H R = some (.lst [.ref (p 0), .ref (p 1), .ref (p 2)])
  p : ∀ i, i < 3 → PairAt H (p i) (t i) (b i)
  b0 : ∀ i, i < 3 → b i ≠ 0
  bt : ∀ i, i < 3 → (t i).natAbs ≤ B
  bb : ∀ i, i < 3 → (b i).natAbs ≤ B
theorem RawIs.same {H H' : Hp} {R : Addr} {p : Nat → Addr} {t b : Nat → Int} {B : Nat} (h : RawIs H R p t b B) (s : Same H H') : RawIs H' R p t b B :=
  ⟨s _ _ h.hR, fun i hi => (h.p i hi).same s, h.b0, h.bt, h.bb⟩
/-- its second item put anew -/
theorem RawIs.put {H : Hp} {R : Addr} {p : Nat → Addr} {t b : Nat → Int} {B : Nat} (h : RawIs H R p t b B) {r : Addr} {x y : Int} (hr : PairAt H r x y) (y0 : y ≠ 0) (bx : x.natAbs ≤ B) (bY : y.natAbs ≤ B) :
    ∃ p' t' b', RawIs (upd H R (.lst [.ref (p 0), .ref r, .ref (p 2)])) R p' t' b' B := by
  have ne : ∀ {q : Addr} {n d : Int}, PairAt H q n d → q ≠ R := fun hq => ne_of hq h.hR (by intro z; cases z)
  refine ⟨fun i => if i = 1 then r else p i, fun i => if i = 1 then x else t i, fun i => if i = 1 then y else b i, upd_same, fun i hi => ?_, fun i hi => ?_, fun i hi => ?_, fun i hi => ?_⟩
  all_goals by_cases e : i = 1
  · subst e
    show upd H R _ r = _
    rw [upd_ne (ne hr)]
    exact hr
  · show upd H R _ (if i = 1 then r else p i) = some (.tup [.int (if i = 1 then x else t i), .int (if i = 1 then y else b i)])
    rw [if_neg e, if_neg e, if_neg e, upd_ne (ne (h.p i hi))]
    exact h.p i hi
  · show (if i = 1 then y else b i) ≠ 0
    rw [if_pos e]; exact y0
  · show (if i = 1 then y else b i) ≠ 0
    rw [if_neg e]; exact h.b0 i hi
  · show (if i = 1 then x else t i).natAbs ≤ B
    rw [if_pos e]; exact bx
  · show (if i = 1 then x else t i).natAbs ≤ B
    rw [if_neg e]; exact h.bt i hi
  · show (if i = 1 then y else b i).natAbs ≤ B
    rw [if_pos e]; exact bY
  · show (if i = 1 then y else b i).natAbs ≤ B
    rw [if_neg e]; exact h.bb i hi
theorem FeedAt.lst {H : Hp} {a cl : Addr} (h : FeedAt H a cl) : ∃ xs, H a = some (.lst xs) := let ⟨_, _, _, _, f⟩ := h; ⟨_, f.hA⟩
theorem FeedAt.lst2 {H : Hp} {a cl : Addr} (h : FeedAt H a cl) : ∃ xs, H cl = some (.lst xs) := let ⟨_, _, _, _, f⟩ := h; ⟨_, f.hC⟩
theorem FeedAt.other {H : Hp} {a cl r : Addr} {o : HO} (h : FeedAt H a cl) (h1 : r ≠ a) (h2 : r ≠ cl) : FeedAt (upd H r o) a cl :=
  let ⟨cs, i, p, s, f⟩ := h
  ⟨cs, i, p, s, by rw [upd_ne h1.symm]; exact f.hA, by rw [upd_ne h2.symm]; exact f.hC, f.ne, f.i0, f.p0, f.s0, f.s1, f.len, f.nn⟩
theorem PairAt.ne {H : Hp} {q R : Addr} {n d : Int} {xs : List V} (h : PairAt H q n d) (h2 : H R = some (.lst xs)) : q ≠ R := ne_of h h2 (by intro z; cases z)
theorem PairAt.other {H : Hp} {q R : Addr} {n d : Int} {o : HO} (h : PairAt H q n d) (ne : q ≠ R) : PairAt (upd H R o) q n d := by
  show upd H R o q = _
  rw [upd_ne ne]
  exact h
theorem PairAt.but {H H' : Hp} {a q : Addr} {n d : Int} (h : PairAt H q n d) (x : But a H H') (ne : q ≠ a) : PairAt H' q n d := x _ _ h ne
theorem RawIs.but {H H' : Hp} {a R : Addr} {p : Nat → Addr} {t b : Nat → Int} {B : Nat} {xs : List V} (h : RawIs H R p t b B) (x : But a H H') (ne : R ≠ a) (ha : H a = some (.lst xs)) : RawIs H' R p t b B :=
  ⟨x _ _ h.hR ne, fun i hi => (h.p i hi).but x ((h.p i hi).ne ha), h.b0, h.bt, h.bb⟩
theorem RawIs.other {H : Hp} {D R : Addr} {p : Nat → Addr} {t b : Nat → Int} {B : Nat} {xs : List V} {o : HO} (h : RawIs H R p t b B) (hD : H D = some (.lst xs)) (ne : R ≠ D) : RawIs (upd H D o) R p t b B :=
  ⟨by rw [upd_ne ne]; exact h.hR, fun i hi => (h.p i hi).other ((h.p i hi).ne hD), h.b0, h.bt, h.bb⟩
theorem RatAt.other {C : Addr} {H : Hp} {q R : Addr} {n d : Int} {o : HO} (h : RatAt C H q n d) (ne : q ≠ R) : RatAt C (upd H R o) q n d := by
  obtain ⟨dx, h⟩ := h
  exact ⟨dx, by rw [upd_ne ne]; exact h⟩
theorem it3 {p : Nat → Addr} {i : Nat} {x : V} (h : [V.ref (p 0), V.ref (p 1), V.ref (p 2)][i]? = some x) : i < 3 ∧ x = .ref (p i) := by
  match i, h with
  | 0, h => exact ⟨by decide, (Option.some.inj h).symm⟩
  | 1, h => exact ⟨by decide, (Option.some.inj h).symm⟩
  | 2, h => exact ⟨by decide, (Option.some.inj h).symm⟩
  | i + 3, h => exact absurd h (by simp)
theorem ex1 (x : Int) : V.bl (decide (V.int x = V.int x)) = V.bl true := by rw [decide_eq_true rfl]
theorem six (r : Int) (h0 : 0 ≤ r) (h1 : r < 6) : ∃ m : Int, atI [V.int 1, V.int 1, V.int 4, V.int 4, V.int 28, V.int 59] r = some (.int m) ∧ 1 ≤ m ∧ m ≤ 59 := by
  have : r = 0 ∨ r = 1 ∨ r = 2 ∨ r = 3 ∨ r = 4 ∨ r = 5 := by omega
  rcases this with rfl | rfl | rfl | rfl | rfl | rfl
  · exact ⟨1, rfl, by decide, by decide⟩
  · exact ⟨1, rfl, by decide, by decide⟩
  · exact ⟨4, rfl, by decide, by decide⟩
  · exact ⟨4, rfl, by decide, by decide⟩
  · exact ⟨28, rfl, by decide, by decide⟩
  · exact ⟨59, rfl, by decide, by decide⟩
theorem bigB {m : Nat} {k : Nat} (h : m ≤ k) {x : Nat} (hx : x ≤ 100000 ^ (m + 1)) : x < 2 ^ (17 * (k + 1) + 1) := by
  have h1 : (100000 : Nat) ^ (m + 1) ≤ (2 ^ 17) ^ (m + 1) := Nat.pow_le_pow_left (by decide) _
  rw [← Nat.pow_mul] at h1
  have h2 : 2 ^ (17 * (m + 1)) ≤ 2 ^ (17 * (k + 1)) := Nat.pow_le_pow_right (by decide) (by omega)
  have h3 : 0 < 2 ^ (17 * (k + 1)) := Nat.pow_pos (by decide)
  rw [Nat.pow_succ]
  omega
def spLaw (K : PySem.W.Frag) : Sp := fun vs H Q _ => ∃ (a : Addr) (ns : List Int), vs = [.ref a] ∧ SqL K H a (ns.map V.int) ∧ ns.length ≤ 63 ∧ ∀ H', Q (.bl true) H'
def LN : List Str := ["script", "feed", "parts", "k", "raw", "kind", "one", "dues", "made", "turn", "two", "due", "other"]
section
variable {P : Program} {w : World} {K : PySem.W.Frag} {mg : Str → Option Value} {base : Heap}
theorem scL : FnScope ["script", "feed", "parts", "k", "raw", "kind", "one", "dues", "made", "turn", "two", "due", "other"] ["script"] (defScope sLaw) := ⟨rfl, rfl, rfl, by decide +kernel, rfl, by decide +kernel, by decide +kernel⟩
theorem ok_law {f C fI fA fS fM fN fFe fDr fFr fPa fSu fB fSa fMi fCh : Addr} {fd dI dA dS dM dN dFe dDr dFr dPa dSu dB dSa dMi dCh : FuncData} (F : Fun K "law" "law" sLaw f fd) (T : TxtL mg) (TR : TxtR K mg C) (O : Ops P w K mg base C fA fS fM fN dA dS dM dN)
    (M : Mk K C fI) (GI : FnOk P w K mg base CX0 1 fI dI ["self", "top", "bottom"] (spInit C)) (bI : Binds K dI ["self", "top", "bottom"] [])
    (bI1 : ∃ ds, Vals [V.int 1] ds ∧ Binds K dI ["self", "top", "bottom"] ds) (bIk : ∃ its : List Value, KBn K dI ["self", "top", "bottom"] 2 ["bottom"] (fun us ws => us ++ ws) (fun vs zs => vs ++ zs))
    (cFe : CalN P w K mg base "_law_feed" 1 ["script"] (spFeed K) fFe dFe) (cDr : CalN P w K mg base "_law_draw" 1 ["feed", "limit"] spDraw fDr dDr) (cFr : CalN P w K mg base "_law_fraction" 3 ["feed", "parts"] spFrac fFr dFr)
    (cPa : CalN P w K mg base "_law_pair" 1 ["above", "below"] spPair fPa dPa) (cS : CalN P w K mg base "_law_sum" 2 ["one", "two"] spSum fSu dSu) (cB : CalN P w K mg base "_law_by" 2 ["one", "two"] spBy fB dB)
    (cE : CalN P w K mg base "_law_same" 2 ["actual", "due"] (spSame C) fSa dSa) (cM : CalN P w K mg base "_law_minus" 1 ["one"] spMinus fMi dMi) (cC : CalN P w K mg base "_law_chain" 4 ["made", "dues"] (spChain C) fCh dCh) :
    FnOk P w K mg base CX0 5 f fd ["script"] (spLaw K) := by
  refine F.ok scL (fun vs H Q E h => ?_) (fun cdv A outer s H vs Q E hr h => ?_)
  · obtain ⟨a, ns, rfl, _⟩ := h
    rfl
  · obtain ⟨a, ns, rfl, hS, hl, k⟩ := h
    obtain ⟨ds, vds, bI1⟩ := bI1
    obtain ⟨its, bIk⟩ := bIk
    have hr1 : Room 1 _ := hr.mono (by decide)
    have hr2 : Room 2 _ := hr.mono (by decide)
    have hr3 : Room 3 _ := hr.mono (by decide)
    refine ⟨_, (pss_cons (ps_set (i := 1) scL.nd rfl (.inr rfl) (pe_call cFe.G hr1 rfl cFe.m cFe.kp cFe.b .nil pass0 (pa_cons (pv 0) pa_nil)))
      (pss_cons (ps_set (i := 2) scL.nd rfl (.inr rfl) (pe_ix ix_list (pe_lst (pa_cons pe_int (pa_cons pe_int (pa_cons pe_int (pa_cons pe_int (pa_cons pe_int (pa_cons pe_int pa_nil))))))) (pe_call cDr.G hr1 rfl cDr.m cDr.kp cDr.b .nil pass0 (pa_cons (pv 1) (pa_cons pe_int pa_nil))) (fun _ _ => rfl)))
      (pss_cons (ps_setLc (i := 4) (own := [("k", 3)]) (g := gName 3) (tt := tYes) rfl scL.nd rfl rfl (sw_true rfl rfl rfl (by decide +kernel)) (pi_range1 rfl T.range (pa_cons pe_int pa_nil)) (blkOk_by (N := ["script", "feed", "parts", "k", "raw", "kind", "one", "dues", "made", "turn", "two", "due", "other"]) (sc := defScope sLaw) (by decide +kernel)) (fun _ _ _ _ _ => pg_name (i := 3) scL.nd rfl (Or.inl rfl)) (fun _ _ _ _ _ => pts_nil) (fun _ _ _ _ _ => (pe_call cFr.G hr3 rfl cFr.m cFr.kp cFr.b .nil pass0 (pa_cons (pv 1) (pa_cons (pv 2) pa_nil)))))
      (pss_cons (ps_set (i := 5) scL.nd rfl (.inl rfl) (pe_call cDr.G hr1 rfl cDr.m cDr.kp cDr.b .nil pass0 (pa_cons (pv 1) (pa_cons pe_int pa_nil))))
      (C8.pss_cut (ps_if (pt_cmpR op_eq (pv 5) pe_int (nomark _)) (pss_one (ps_asg (pe_call cPa.G hr1 rfl cPa.m cPa.kp cPa.b .nil pass0 (pa_cons (pe_ix ix_tup (pe_ix ix_list (pv 4) pe_int (fun _ _ => rfl)) pe_int (fun _ _ => rfl)) (pa_cons (pe_ix ix_tup (pe_ix ix_list (pv 4) pe_int (fun _ _ => rfl)) pe_int (fun _ _ => rfl)) pa_nil))) (pg_sub (pv 4) pe_int set_list))) pss_nil)
      (C8.pss_cut (ps_if (pt_cmpR op_eq (pv 5) pe_int (nomark _)) (pss_one (ps_asg (pe_call cM.G hr1 rfl cM.m cM.kp cM.b .nil pass0 (pa_cons (pe_call cPa.G hr1 rfl cPa.m cPa.kp cPa.b .nil pass0 (pa_cons (pe_ix ix_tup (pe_ix ix_list (pv 4) pe_int (fun _ _ => rfl)) pe_int (fun _ _ => rfl)) (pa_cons (pe_ix ix_tup (pe_ix ix_list (pv 4) pe_int (fun _ _ => rfl)) pe_int (fun _ _ => rfl)) pa_nil))) pa_nil)) (pg_sub (pv 4) pe_int set_list))) pss_nil)
      (pss_cons (ps_setLc (i := 7) (own := [("one", 6)]) (g := gName 6) (tt := tYes) rfl scL.nd rfl rfl (sw_true rfl rfl rfl (by decide +kernel)) (pi_list (pv 4)) (blkOk_by (N := ["script", "feed", "parts", "k", "raw", "kind", "one", "dues", "made", "turn", "two", "due", "other"]) (sc := defScope sLaw) (by decide +kernel)) (fun _ _ _ _ _ => pg_name (i := 6) scL.nd rfl (Or.inl rfl)) (fun _ _ _ _ _ => pts_nil) (fun _ _ _ _ _ => (pe_call cPa.G hr1 rfl cPa.m cPa.kp cPa.b .nil pass0 (pa_cons (pe_ix (show IxR _ (rIxT K) from ix_tup) (pv 6) pe_int (fun _ _ => rfl)) (pa_cons (pe_ix (show IxR _ (rIxT K) from ix_tup) (pv 6) pe_int (fun _ _ => rfl)) pa_nil)))))
      (pss_cons (ps_set (i := 8) scL.nd rfl (.inl rfl) (pe_lst (pa_cons (pe_make M GI hr2 rfl TR.mgC bI .nil pass0 (pa_cons (pe_ix ix_tup (pe_ix ix_list (pv 4) pe_int (fun _ _ => rfl)) pe_int (fun _ _ => rfl)) (pa_cons (pe_ix ix_tup (pe_ix ix_list (pv 4) pe_int (fun _ _ => rfl)) pe_int (fun _ _ => rfl)) pa_nil))) (pa_cons (pe_make M GI hr2 rfl TR.mgC bI .nil pass0 (pa_cons (pe_ix ix_tup (pe_ix ix_list (pv 4) pe_int (fun _ _ => rfl)) pe_int (fun _ _ => rfl)) (pa_cons (pe_ix ix_tup (pe_ix ix_list (pv 4) pe_int (fun _ _ => rfl)) pe_int (fun _ _ => rfl)) pa_nil))) (pa_cons (pe_makeN M GI hr2 rfl TR.mgC bIk pass0 (pa_cons (pe_ix ix_tup (pe_ix ix_list (pv 4) pe_int (fun _ _ => rfl)) pe_int (fun _ _ => rfl)) pa_nil) (pk_cons (pe_ix ix_tup (pe_ix ix_list (pv 4) pe_int (fun _ _ => rfl)) pe_int (fun _ _ => rfl)) pk_nil)) pa_nil)))))
      (pss_cons (ps_for PassesOwn.never rfl (pi_range1 rfl T.range (pa_cons pe_int pa_nil)) (pg_name (i := 9) scL.nd rfl (Or.inl rfl)) (pss_cons (ps_for PassesOwn.never rfl (pi_range1 rfl T.range (pa_cons pe_int pa_nil)) (pg_name (i := 3) scL.nd rfl (Or.inl rfl)) (pss_cons (ps_set (i := 6) scL.nd rfl (.inl rfl) (pe_ix ix_list (pv 8) (pv 3) (fun _ _ => rfl)))
      (pss_cons (ps_set (i := 10) scL.nd rfl (.inl rfl) (pe_ix ix_list (pv 8) (pe_op op_mod (pe_op op_add (pv 3) pe_int) pe_int) (fun _ _ => rfl)))
      (pss_cons (ps_set (i := 11) scL.nd rfl (.inl rfl) (pe_ix ix_list (pv 7) (pv 3) (fun _ _ => rfl)))
      (pss_cons (ps_set (i := 12) scL.nd rfl (.inl rfl) (pe_ix ix_list (pv 7) (pe_op op_mod (pe_op op_add (pv 3) pe_int) pe_int) (fun _ _ => rfl)))
      (pss_cons (ps_if (pt_not (pt_val (pe_call cE.G hr2 rfl cE.m cE.kp cE.b .nil pass0 (pa_cons (pe_op (op_own O.oA O.gA hr3 O.bA pass0) (pv 6) (pv 10)) (pa_cons (pe_call cS.G hr2 rfl cS.m cS.kp cS.b .nil pass0 (pa_cons (pv 11) (pa_cons (pv 12) pa_nil))) pa_nil))))) (pss_one ps_never) pss_nil)
      (pss_cons (ps_if (pt_not (pt_val (pe_call cE.G hr2 rfl cE.m cE.kp cE.b .nil pass0 (pa_cons (pe_op (op_own O.oS O.gS hr3 O.bS pass0) (pv 6) (pv 10)) (pa_cons (pe_call cS.G hr2 rfl cS.m cS.kp cS.b .nil pass0 (pa_cons (pv 11) (pa_cons (pe_call cM.G hr1 rfl cM.m cM.kp cM.b .nil pass0 (pa_cons (pv 12) pa_nil)) pa_nil))) pa_nil))))) (pss_one ps_never) pss_nil)
      (pss_cons (ps_if (pt_not (pt_val (pe_call cE.G hr2 rfl cE.m cE.kp cE.b .nil pass0 (pa_cons (pe_op (op_own O.oM O.gM hr3 O.bM pass0) (pv 6) (pv 10)) (pa_cons (pe_call cB.G hr2 rfl cB.m cB.kp cB.b .nil pass0 (pa_cons (pv 11) (pa_cons (pv 12) pa_nil))) pa_nil))))) (pss_one ps_never) pss_nil)
      (pss_one (ps_if (PW.pt (pw_or (pt_not (pt_val (pe_call cE.G hr2 rfl cE.m cE.kp cE.b .nil pass0 (pa_cons (pe_un (un_own rfl O.nA O.nF O.gN hr3 O.bN pass0) (pv 6)) (pa_cons (pe_call cM.G hr1 rfl cM.m cM.kp cM.b .nil pass0 (pa_cons (pv 11) pa_nil)) pa_nil))))) (pw_or1 (pt_not (pt_val (pe_call cE.G hr2 rfl cE.m cE.kp cE.b .nil pass0 (pa_cons (pe_op (op_own O.oS O.gS hr3 O.bS pass0) (pv 6) (pv 6)) (pa_cons (pe_tup (pa_cons pe_int (pa_cons pe_int pa_nil))) pa_nil)))))))) (pss_one ps_never) pss_nil))))))))))
      (pss_one (ps_for PassesOwn.never rfl (pi_range1 rfl T.range (pa_cons pe_int pa_nil)) (pg_name (i := 3) scL.nd rfl (Or.inl rfl)) (pss_one (ps_if (PW.pt (pw_or (pt_not (pt_val (pe_call cE.G hr2 rfl cE.m cE.kp cE.b .nil pass0 (pa_cons (pe_ix ix_list (pv 8) (pv 3) (fun _ _ => rfl)) (pa_cons (pe_ix ix_list (pv 7) (pv 3) (fun _ _ => rfl)) pa_nil))))) (pw_or1 (pt_not (pt_val (pe_call cE.G hr2 rfl cE.m cE.kp cE.b .nil pass0 (pa_cons (pe_make M GI hr2 rfl TR.mgC bI1 vds pass0 (pa_cons (pe_ix ix_tup (pe_ix ix_list (pv 4) (pv 3) (fun _ _ => rfl)) pe_int (fun _ _ => rfl)) pa_nil)) (pa_cons (pe_tup (pa_cons (pe_ix ix_tup (pe_ix ix_list (pv 4) (pv 3) (fun _ _ => rfl)) pe_int (fun _ _ => rfl)) (pa_cons pe_int pa_nil))) pa_nil)))))))) (pss_one ps_never) pss_nil))))))
      (pss_one (ps_ret (pe_or (pe_cmpR op_gt (pv 2) pe_int (nomark _)) (pe_one (pe_call cC.G hr rfl cC.m cC.kp cC.b .nil pass0 (pa_cons (pv 8) (pa_cons (pv 7) pa_nil)))))))))))))))), ?_⟩
    -- feed, parts
    refine ⟨_, rfl, a, ns, rfl, hS, hl, fun fe cl H1 s1 nfe ncl f1 => ?_⟩
    refine ⟨(by show 6 ≤ sizeLine; decide), fun l nl => ?_⟩
    obtain ⟨xs1, hfe1⟩ := f1.lst
    have nel : l ≠ fe := (ne_of_none hfe1 nl).symm
    refine ⟨_, rfl, fe, cl, 6, rfl, f1.same (Same.upd nl), by decide, by decide, fun r H2 r0 r1 f2 b2 => ?_⟩
    obtain ⟨m, hm, m1, m59⟩ := six r r0 r1
    refine ⟨l, _, r, _, rfl, rfl, SqL.of (b2 _ _ upd_same nel), hm, ?_⟩
    -- raw
    generalize hBd : (100000 : Nat) ^ (m.toNat + 1) = B
    have B0 : ∀ x : Nat, x ≤ B → x < 2 ^ 1021 := fun x hx => by
      rw [← hBd] at hx
      exact bigB (k := 59) (by omega) hx
    refine ⟨3, rfl, by decide, by decide, fun R nR => ?_⟩
    obtain ⟨xs2, hfe2⟩ := f2.lst
    obtain ⟨xs3, hcl2⟩ := f2.lst2
    have nRfe : R ≠ fe := (ne_of_none hfe2 nR).symm
    have nRcl : R ≠ cl := (ne_of_none hcl2 nR).symm
    refine lc_range (lo := 0) (n := 3) (fun i H' => ∃ (p : Nat → Addr) (t b : Nat → Int), H' R = some (.lst ((List.range i).map fun j => V.ref (p j))) ∧ (∀ j, j < i → PairAt H' (p j) (t j) (b j) ∧ b j ≠ 0 ∧ (t j).natAbs ≤ B ∧ (b j).natAbs ≤ B) ∧ FeedAt H' fe cl)
      ⟨fun _ => 0, fun _ => 0, fun _ => 0, upd_same, fun j hj => absurd hj (Nat.not_lt_zero _), f2.other nRfe nRcl⟩ ?_ ?_
    · rintro i H' hi ⟨p, t, b, hR, hp, f⟩
      refine ⟨rfl, ?_⟩
      refine ⟨_, rfl, _, rfl, fe, cl, m, rfl, f, m1, by omega, fun r t' b' H'' f' bb nr nra hr hb' ht hb2 => ?_⟩
      obtain ⟨xs, hf⟩ := f.lst
      have hR' := bb _ _ hR nRfe
      rw [hBd] at ht hb2
      refine ⟨_, hR', ?_, ext p i r, ext t i t', ext b i b', ?_, fun j hj => ?_, f'.other nRfe nRcl⟩
      · rw [List.length_map, List.length_range]
        exact small1000 (by omega)
      · rw [upd_same]
        have e := map_ext (fun j => V.ref (p j)) i (V.ref r)
        have e2 : (List.range (i + 1)).map (fun j => V.ref (ext p i r j)) = (List.range (i + 1)).map (ext (fun j => V.ref (p j)) i (V.ref r)) := List.map_congr_left fun j _ => by
          unfold ext
          split <;> rfl
        rw [e2, e]
      · by_cases e : j = i
        · subst e
          rw [ext_same, ext_same, ext_same]
          exact ⟨hr.other (hr.ne hR'), hb', ht, hb2⟩
        · have hj' : j < i := by omega
          rw [ext_lt _ _ hj', ext_lt _ _ hj', ext_lt _ _ hj']
          obtain ⟨g1, g2, g3, g4⟩ := hp j hj'
          have g5 := g1.but bb (g1.ne hf)
          exact ⟨g5.other (g5.ne hR'), g2, g3, g4⟩
    rintro H3 ⟨p, t, b, hR, hp, f3⟩
    have W3 : RawIs H3 R p t b B := ⟨hR, fun i hi => (hp i hi).1, fun i hi => (hp i hi).2.1, fun i hi => (hp i hi).2.2.1, fun i hi => (hp i hi).2.2.2⟩
    -- kind
    obtain ⟨xs4, hfe3⟩ := f3.lst
    refine ⟨_, rfl, fe, cl, 6, rfl, f3, by decide, by decide, fun kd H4 _ _ f4 b4 => ?_⟩
    have W4 := W3.but b4 nRfe hfe3
    have md : ∀ {x : Int}, x.natAbs ≤ B → Md x := fun h => pw (by decide) (B0 _ h)
    have sm : ∀ {x : Int}, x.natAbs ≤ B → Sm x := fun h => pw (by decide) (B0 _ h)
    have rawAt : ∀ {H' : Hp} {p : Nat → Addr} {t b : Nat → Int}, RawIs H' R p t b B → ∀ i : Nat, i < 3 → ∃ q, atI [V.ref (p 0), V.ref (p 1), V.ref (p 2)] (i : Int) = some (.ref q) ∧ PairAt H' q (t i) (b i) := fun W i hi => ⟨_, at3 hi, W.p i hi⟩
    refine ⟨fun σ' H' => ∃ (p : Nat → Addr) (t b : Nat → Int), σ' = [some (.ref a), some (.ref fe), some (.int m), none, some (.ref R), some (.int kd), none, none, none, none, none, none, none] ∧ RawIs H' R p t b B, ?_, ?_⟩
    · refine ⟨_, rfl, rfl, _, rfl, ?_⟩
      refine ite2 (fun _ => ?_) (fun _ => ⟨p, t, b, rfl, W4⟩)
      refine ⟨_, rfl, R, _, 0, _, rfl, rfl, SqL.of W4.hR, rfl, p 0, _, 0, _, rfl, rfl, (W4.p 0 (by decide)).t, rfl,
        _, rfl, R, _, 0, _, rfl, rfl, SqL.of W4.hR, rfl, p 0, _, 1, _, rfl, rfl, (W4.p 0 (by decide)).t, rfl,
        _, _, rfl, W4.b0 0 (by decide), md (W4.bb 0 (by decide)), fun r5 H5 s5 _ hr5 => ?_⟩
      have W5 := W4.same s5
      refine ⟨_, rfl, R, _, _, 1, rfl, rfl, W5.hR, rfl, ?_⟩
      obtain ⟨p', t', b', W'⟩ := W5.put hr5 (botN (W4.b0 0 (by decide))) (Nat.le_trans (RT.top_le (W4.b0 0 (by decide))) (W4.bt 0 (by decide))) (Nat.le_trans (RT.bot_le (W4.b0 0 (by decide))) (W4.bb 0 (by decide)))
      exact ⟨p', t', b', rfl, W'⟩
    clear hp hR W3 W4
    rintro σ5 H5 ⟨p, t, b, rfl, W5⟩
    refine ⟨fun σ' H' => ∃ (p : Nat → Addr) (t b : Nat → Int), σ' = [some (.ref a), some (.ref fe), some (.int m), none, some (.ref R), some (.int kd), none, none, none, none, none, none, none] ∧ RawIs H' R p t b B, ?_, ?_⟩
    · refine ⟨_, rfl, rfl, _, rfl, ?_⟩
      refine ite2 (fun _ => ?_) (fun _ => ⟨p, t, b, rfl, W5⟩)
      refine ⟨_, rfl, R, _, 0, _, rfl, rfl, SqL.of W5.hR, rfl, p 0, _, 0, _, rfl, rfl, (W5.p 0 (by decide)).t, rfl,
        _, rfl, R, _, 0, _, rfl, rfl, SqL.of W5.hR, rfl, p 0, _, 1, _, rfl, rfl, (W5.p 0 (by decide)).t, rfl,
        _, _, rfl, W5.b0 0 (by decide), md (W5.bb 0 (by decide)), fun r5 H6 s6 _ hr6 => ?_⟩
      refine ⟨_, _, _, rfl, hr6, fun r7 H7 s7 _ hr7 => ?_⟩
      have W7 := (W5.same s6).same s7
      refine ⟨_, rfl, R, _, _, 1, rfl, rfl, W7.hR, rfl, ?_⟩
      have tl := Nat.le_trans (RT.top_le (t := t 0) (W5.b0 0 (by decide))) (W5.bt 0 (by decide))
      obtain ⟨p', t', b', W'⟩ := W7.put hr7 (botN (W5.b0 0 (by decide))) (by omega) (Nat.le_trans (RT.bot_le (W5.b0 0 (by decide))) (W5.bb 0 (by decide)))
      exact ⟨p', t', b', rfl, W'⟩
    clear W5
    rintro σ6 H6 ⟨p, t, b, rfl, W6⟩
    -- dues
    refine ⟨_, rfl, R, rfl, ⟨_, SqL.of W6.hR⟩, fun D nD => ?_⟩
    have nRD : R ≠ D := ne_of_none W6.hR nD
    refine lc_list (K := K) (a := R) (xs := [.ref (p 0), .ref (p 1), .ref (p 2)]) (fun i H' => ∃ q : Nat → Addr, RawIs H' R p t b B ∧ H' D = some (.lst ((List.range i).map fun j => V.ref (q j))) ∧ ∀ j, j < i → PairAt H' (q j) (RT.top (t j) (b j)) (RT.bot (t j) (b j)))
      ⟨fun _ => 0, (W6.same (Same.upd nD)), upd_same, fun j hj => absurd hj (Nat.not_lt_zero _)⟩ (fun i H' _ ⟨_, W, _⟩ => SqL.of W.hR) ?_ ?_
    · rintro i x H' hx ⟨q, W, hD, hq⟩
      obtain ⟨hi, rfl⟩ := it3 hx
      refine ⟨rfl, ?_⟩
      refine ⟨_, rfl, p i, _, 0, _, rfl, rfl, (W.p i hi).t, rfl, _, rfl, p i, _, 1, _, rfl, rfl, (W.p i hi).t, rfl, _, _, rfl, W.b0 i hi, md (W.bb i hi), fun r H'' s nr hr => ?_⟩
      have hD' := s _ _ hD
      refine ⟨_, hD', ?_, ext q i r, (W.same s).other hD' nRD, ?_, fun j hj => ?_⟩
      · rw [List.length_map, List.length_range]
        exact small1000 (by omega)
      · rw [upd_same]
        have e := map_ext (fun j => V.ref (q j)) i (V.ref r)
        have e2 : (List.range (i + 1)).map (fun j => V.ref (ext q i r j)) = (List.range (i + 1)).map (ext (fun j => V.ref (q j)) i (V.ref r)) := List.map_congr_left fun j _ => by
          unfold ext
          split <;> rfl
        rw [e2, e]
      · by_cases e : j = i
        · subst e
          rw [ext_same]
          exact hr.other (hr.ne hD')
        · have hj' : j < i := by omega
          rw [ext_lt _ _ hj']
          have g := (hq j hj').same s
          exact g.other (g.ne hD')
    rintro H7 ⟨q, W7, hD7, hq7⟩
    -- made
    have d0 : ∀ i, i < 3 → 0 < RT.bot (t i) (b i) := fun i hi => RT.bot_pos (W7.b0 i hi)
    refine ⟨_, rfl, R, _, 0, _, rfl, rfl, SqL.of W7.hR, rfl, p 0, _, 0, _, rfl, rfl, (W7.p 0 (by decide)).t, rfl, _, rfl, R, _, 0, _, rfl, rfl, SqL.of W7.hR, rfl, p 0, _, 1, _, rfl, rfl, (W7.p 0 (by decide)).t, rfl, ?_⟩
    intro r0 dx0 nx nd ne
    refine ⟨r0, dx0, _, _, rfl, upd_same, (W7.b0 0 (by decide)), (md (W7.bb 0 (by decide))), fun H8 a0 kp => ⟨rfl, ?_⟩⟩
    have s8 := Same.made nx nd kp
    clear kp nx nd ne
    have W8 := W7.same s8
    refine ⟨_, rfl, R, _, 1, _, rfl, rfl, SqL.of W8.hR, rfl, p 1, _, 0, _, rfl, rfl, (W8.p 1 (by decide)).t, rfl, _, rfl, R, _, 1, _, rfl, rfl, SqL.of W8.hR, rfl, p 1, _, 1, _, rfl, rfl, (W8.p 1 (by decide)).t, rfl, ?_⟩
    intro r1 dx1 nx nd ne
    refine ⟨r1, dx1, _, _, rfl, upd_same, (W8.b0 1 (by decide)), (md (W8.bb 1 (by decide))), fun H9 a1 kp => ⟨rfl, ?_⟩⟩
    have s9 := Same.made nx nd kp
    clear kp nx nd ne
    have W9 := W8.same s9
    refine ⟨_, rfl, R, _, 2, _, rfl, rfl, SqL.of W9.hR, rfl, p 2, _, 0, _, rfl, rfl, (W9.p 2 (by decide)).t, rfl, _, rfl, R, _, 2, _, rfl, rfl, SqL.of W9.hR, rfl, p 2, _, 1, _, rfl, rfl, (W9.p 2 (by decide)).t, rfl, rfl, rfl, ?_⟩
    intro r2 dx2 nx nd ne
    refine ⟨r2, dx2, _, _, rfl, upd_same, (W9.b0 2 (by decide)), (md (W9.bb 2 (by decide))), fun H10 a2 kp => ⟨rfl, ?_⟩⟩
    have s10 := Same.made nx nd kp
    clear kp nx nd ne
    have W10 := W9.same s10
    refine ⟨(by show 3 ≤ sizeLine; decide), fun Mm nM => ?_⟩
    have s11 : Same H7 (upd H10 Mm (.lst [.ref r0, .ref r1, .ref r2])) := ((s8.trans s9).trans s10).trans (Same.upd nM)
    generalize hn : (fun i => RT.top (t i) (b i)) = n
    generalize hd : (fun i => RT.bot (t i) (b i)) = d
    have en : ∀ i, RT.top (t i) (b i) = n i := fun i => congrFun hn i
    have ed : ∀ i, RT.bot (t i) (b i) = d i := fun i => congrFun hd i
    have W11 := W10.same (Same.upd (o := .lst [.ref r0, .ref r1, .ref r2]) nM)
    have Tr : Trip C (upd H10 Mm (.lst [.ref r0, .ref r1, .ref r2])) Mm D (fun i => if i = 0 then r0 else if i = 1 then r1 else r2) q n d := by
      refine ⟨upd_same, s11 _ _ hD7, fun i hi => ?_, fun i hi => ?_, fun i hi => ?_, fun i hi => ?_⟩
      · have c0 := ((a0.same s9).same s10).same (Same.upd (o := .lst [.ref r0, .ref r1, .ref r2]) nM)
        have c1 := (a1.same s10).same (Same.upd (o := .lst [.ref r0, .ref r1, .ref r2]) nM)
        have c2 := a2.same (Same.upd (o := .lst [.ref r0, .ref r1, .ref r2]) nM)
        rw [en, ed] at c0 c1 c2
        match i, hi with
        | 0, _ => exact c0
        | 1, _ => exact c1
        | 2, _ => exact c2
      · have := (hq7 i hi).same s11
        rw [en, ed] at this
        exact this
      · rw [← ed]; exact d0 i hi
      · rw [← ed, ← en]; exact RT.cop (W7.b0 i hi)
    generalize (fun i => if i = 0 then r0 else if i = 1 then r1 else r2 : Nat → Addr) = mm at Tr
    have bn : ∀ i, i < 3 → (n i).natAbs ≤ B ∧ (d i).natAbs ≤ B := fun i hi => by
      rw [← en, ← ed]
      exact ⟨Nat.le_trans (RT.top_le (W7.b0 i hi)) (W7.bt i hi), Nat.le_trans (RT.bot_le (W7.b0 i hi)) (W7.bb i hi)⟩
    have sn : ∀ i, i < 3 → Sm (n i) := fun i hi => sm (bn i hi).1
    have sd : ∀ i, i < 3 → Sm (d i) := fun i hi => sm (bn i hi).2
    have dz : ∀ i, i < 3 → d i ≠ 0 := fun i hi => by have := Tr.d0 i hi; omega
    -- the turns
    refine ⟨2, rfl, by decide, by decide, for_range (lo := 0) (n := 2) (fun _ σ H' => ∃ x3 x6 x9 x10 x11 x12, σ = [some (.ref a), some (.ref fe), some (.int m), x3, some (.ref R), some (.int kd), x6, some (.ref D), some (.ref Mm), x9, x10, x11, x12] ∧ Trip C H' Mm D mm q n d ∧ RawIs H' R p t b B)
      ⟨_, _, _, _, _, _, rfl, Tr, W11⟩ ?_ ?_⟩
    · rintro _ σ Ha _ ⟨x3, x6, x9, x10, x11, x12, rfl, Ta, Wa⟩
      refine ⟨3, rfl, by decide, by decide, for_range (lo := 0) (n := 3) (fun _ σ H' => ∃ x3 x6 x9 x10 x11 x12, σ = [some (.ref a), some (.ref fe), some (.int m), x3, some (.ref R), some (.int kd), x6, some (.ref D), some (.ref Mm), x9, x10, x11, x12] ∧ Trip C H' Mm D mm q n d ∧ RawIs H' R p t b B)
        ⟨_, _, _, _, _, _, rfl, Ta, Wa⟩ ?_ ?_⟩
      · rintro i σ Hb hi ⟨x3, x6, x9, x10, x11, x12, rfl, Tb, Wb⟩
        obtain ⟨j, hj, ej⟩ : ∃ j : Nat, j < 3 ∧ ((0 : Int) + (i : Int) + 1) % 3 = (j : Int) := ⟨(i + 1) % 3, by omega, by omega⟩
        have ei : (0 : Int) + (i : Int) = (i : Int) := Int.zero_add _
        refine ⟨_, rfl, _, rfl, Mm, _, _, _, rfl, rfl, SqL.of Tb.hM, (by rw [ei]; exact at3 hi), ?_⟩
        refine ⟨_, rfl, _, rfl, _, _, rfl, rfl, _, _, rfl, rfl, (by show (0 : Int) < 3; decide), Mm, _, _, _, rfl, rfl, SqL.of Tb.hM, (by rw [ej]; exact at3 hj), ?_⟩
        refine ⟨_, rfl, _, rfl, D, _, _, _, rfl, rfl, SqL.of Tb.hD, (by rw [ei]; exact at3 hi), ?_⟩
        refine ⟨_, rfl, _, rfl, _, _, rfl, rfl, _, _, rfl, rfl, (by show (0 : Int) < 3; decide), D, _, _, _, rfl, rfl, SqL.of Tb.hD, (by rw [ej]; exact at3 hj), ?_⟩
        have zij : d i * d j ≠ 0 := Int.mul_ne_zero (dz i hi) (dz j hj)
        -- one + two
        obtain ⟨y0, e0⟩ := Tb.r i hi
        obtain ⟨y1, e1⟩ := Tb.r j hj
        refine ⟨_, rfl, _, rfl, _, _, _, _, _, _, rfl, rfl, e0, e1, _, _, _, _, _, _, rfl, ⟨y0, e0⟩, ⟨y1, e1⟩, dz i hi, dz j hj, sn i hi, sd i hi, sn j hj, sd j hj, fun u1 Hc sc _ ac => ⟨⟨u1, rfl⟩, ?_⟩⟩
        have Tc := Tb.same sc
        refine ⟨_, rfl, _, rfl, _, _, _, _, _, _, rfl, Tc.p i hi, Tc.p j hj, dz i hi, dz j hj, sn i hi, sd i hi, sn j hj, sd j hj, fun u2 Hd sd' _ ad => ?_⟩
        have Td := Tc.same sd'
        refine ⟨_, _, _, _, rfl, ac.same sd', ad, true, rfl, iteF ?_⟩
        -- one - two
        obtain ⟨y0, e0⟩ := Td.r i hi
        obtain ⟨y1, e1⟩ := Td.r j hj
        refine ⟨_, rfl, _, rfl, _, _, _, _, _, _, rfl, rfl, e0, e1, _, _, _, _, _, _, rfl, ⟨y0, e0⟩, ⟨y1, e1⟩, dz i hi, dz j hj, sn i hi, sd i hi, sn j hj, sd j hj, fun u3 He se _ ae => ⟨⟨u3, rfl⟩, ?_⟩⟩
        have Te := Td.same se
        refine ⟨_, rfl, _, rfl, _, _, _, rfl, Te.p j hj, fun u4 Hf sf _ af => ?_⟩
        have Tf := Te.same sf
        have snm : Sm (0 - n j) := by
          have := sn j hj
          unfold Sm at *
          omega
        refine ⟨_, _, _, _, _, _, rfl, Tf.p i hi, af, dz i hi, dz j hj, sn i hi, sd i hi, snm, sd j hj, fun u5 Hg sg _ ag => ?_⟩
        have Tg := Tf.same sg
        have em : n i * d j + (0 - n j) * d i = n i * d j - n j * d i := by
          rw [Int.sub_mul, Int.zero_mul]
          omega
        refine ⟨_, _, _, _, rfl, (ae.same sf).same sg, ?_, true, rfl, iteF ?_⟩
        · have ag' : PairAt Hg u5 (RT.top (n i * d j + (0 - n j) * d i) (d i * d j)) (RT.bot (n i * d j + (0 - n j) * d i) (d i * d j)) := ag
          rw [em] at ag'
          exact ag'
        -- one * two
        obtain ⟨y0, e0⟩ := Tg.r i hi
        obtain ⟨y1, e1⟩ := Tg.r j hj
        refine ⟨_, rfl, _, rfl, _, _, _, _, _, _, rfl, rfl, e0, e1, _, _, _, _, _, _, rfl, ⟨y0, e0⟩, ⟨y1, e1⟩, dz i hi, dz j hj, sn i hi, sd i hi, sn j hj, sd j hj, fun u6 Hh sh _ ah => ⟨⟨u6, rfl⟩, ?_⟩⟩
        have Th := Tg.same sh
        refine ⟨_, rfl, _, rfl, _, _, _, _, _, _, rfl, Th.p i hi, Th.p j hj, dz i hi, dz j hj, sn i hi, sd i hi, sn j hj, sd j hj, fun u7 Hi si _ ai => ?_⟩
        have Ti := Th.same si
        refine ⟨_, _, _, _, rfl, ah.same si, ai, true, rfl, iteF ?_⟩
        -- -one, one - one
        obtain ⟨y0, e0⟩ := Ti.r i hi
        refine ⟨_, rfl, _, _, _, rfl, e0, _, _, _, rfl, ⟨y0, e0⟩, dz i hi, sd i hi, fun u8 Hj sj _ aj => ?_⟩
        have Tj := Ti.same sj
        refine ⟨_, rfl, _, _, _, rfl, Tj.p i hi, fun u9 Hk sk _ ak => ?_⟩
        have Tk := Tj.same sk
        have kn := RT.keeps (n := 0 - n i) (Ti.d0 i hi) (RT.neg_cop (Ti.co i hi))
        refine ⟨_, _, _, _, rfl, aj.same sk, ?_, true, rfl, iteF ?_⟩
        · show PairAt Hk u9 (RT.top (-n i) (d i)) (RT.bot (-n i) (d i))
          have e : -n i = 0 - n i := by omega
          rw [e, kn.1, kn.2]
          exact ak
        obtain ⟨y0, e0⟩ := Tk.r i hi
        refine ⟨_, rfl, _, rfl, _, _, _, _, _, _, rfl, rfl, e0, e0, _, _, _, _, _, _, rfl, ⟨y0, e0⟩, ⟨y0, e0⟩, dz i hi, dz i hi, sn i hi, sd i hi, sn i hi, sd i hi, fun v1 Hl sl _ al => ⟨⟨v1, rfl⟩, ?_⟩⟩
        refine ⟨(by show 2 ≤ sizeLine; decide), fun v2 nv2 => ?_⟩
        have Tl := Tk.same sl
        have sA : Same Hl (upd Hl v2 (.tup [.int 0, .int 1])) := Same.upd nv2
        have zii : d i * d i ≠ 0 := Int.mul_ne_zero (dz i hi) (dz i hi)
        have z0 := RT.same (t := n i * d i - n i * d i) (b := d i * d i) (t' := 0) (b' := 1) zii (by decide) (by rw [Int.sub_self, Int.zero_mul, Int.zero_mul])
        have z1 := RT.one 0
        refine ⟨_, _, _, _, rfl, al.same sA, ?_, true, rfl, iteF ?_⟩
        · show PairAt _ v2 (RT.top (n i * d i - n i * d i) (d i * d i)) (RT.bot (n i * d i - n i * d i) (d i * d i))
          rw [z0.1, z0.2, z1.1, z1.2]
          exact upd_same
        · have sAll : Same Hb (upd Hl v2 (.tup [.int 0, .int 1])) := (((((((((sc.trans sd').trans se).trans sf).trans sg).trans sh).trans si).trans sj).trans sk).trans sl).trans sA
          exact ⟨_, _, _, _, _, _, rfl, Tb.same sAll, Wb.same sAll⟩
      · rintro σ Hb ⟨x3, x6, x9, x10, x11, x12, rfl, Tb, Wb⟩
        refine ⟨3, rfl, by decide, by decide, for_range (lo := 0) (n := 3) (fun _ σ H' => ∃ x3 x6 x9 x10 x11 x12, σ = [some (.ref a), some (.ref fe), some (.int m), x3, some (.ref R), some (.int kd), x6, some (.ref D), some (.ref Mm), x9, x10, x11, x12] ∧ Trip C H' Mm D mm q n d ∧ RawIs H' R p t b B)
          ⟨_, _, _, _, _, _, rfl, Tb, Wb⟩ ?_ ?_⟩
        · rintro i σ Hc hi ⟨x3, x6, x9, x10, x11, x12, rfl, Tc, Wc⟩
          have ei : (0 : Int) + (i : Int) = (i : Int) := Int.zero_add _
          refine ⟨_, rfl, _, rfl, Mm, _, _, _, rfl, rfl, SqL.of Tc.hM, (by rw [ei]; exact at3 hi), ?_⟩
          refine ⟨_, rfl, _, rfl, D, _, _, _, rfl, rfl, SqL.of Tc.hD, (by rw [ei]; exact at3 hi), _, _, _, _, rfl, Tc.r i hi, Tc.p i hi, true, rfl, iteF ?_⟩
          refine ⟨_, rfl, _, rfl, R, _, _, _, rfl, rfl, SqL.of Wc.hR, (by rw [ei]; exact at3 hi), p i, _, 0, _, rfl, rfl, (Wc.p i hi).t, rfl, ?_⟩
          intro v1 dx3 nx nd ne
          refine ⟨v1, dx3, _, _, rfl, upd_same, (by decide), (by unfold Md; exact Nat.lt_of_lt_of_le (by decide : (1 : Int).natAbs < 2 ^ 1) (Nat.pow_le_pow_right (by decide) (by decide))), fun Hd ad kp => ⟨rfl, ?_⟩⟩
          have sd' := Same.made nx nd kp
          clear kp nx nd ne
          have Wd := Wc.same sd'
          refine ⟨_, rfl, _, rfl, R, _, _, _, rfl, rfl, SqL.of Wd.hR, (by rw [ei]; exact at3 hi), p i, _, 0, _, rfl, rfl, (Wd.p i hi).t, rfl, (by show 2 ≤ sizeLine; decide), fun v2 nv2 => ?_⟩
          have o := RT.one (t i)
          rw [o.1, o.2] at ad
          refine ⟨_, _, _, _, rfl, ad.same (Same.upd nv2), upd_same, true, rfl, iteF ?_⟩
          have sAll := sd'.trans (Same.upd (o := .tup [.int (t i), .int 1]) nv2)
          exact ⟨_, _, _, _, _, _, rfl, Tc.same sAll, Wc.same sAll⟩
        · rintro σ Hc ⟨x3, x6, x9, x10, x11, x12, rfl, Tc, Wc⟩
          exact ⟨_, _, _, _, _, _, rfl, Tc, Wc⟩
    · rintro σ Ha ⟨x3, x6, x9, x10, x11, x12, rfl, Ta, Wa⟩
      refine ⟨_, rfl, _, _, rfl, rfl, _, rfl, ?_⟩
      refine ite2 (fun _ => k _) (fun z => ?_)
      have z : ¬ m > 28 := fun h => z (decide_eq_true h)
      have tb : ∀ x : Nat, x ≤ B → x < 2 ^ 494 := fun x hx => by
        rw [← hBd] at hx
        exact bigB (k := 28) (by omega) hx
      exact ⟨_, rfl, _, rfl, _, _, _, _, _, _, rfl, Ta, fun i hi => ⟨pw (by decide) (tb _ (bn i hi).1), pw (by decide) (tb _ (bn i hi).2)⟩, fun H' _ => k H'⟩
end
end RX

set_option Elab.async false
set_option maxRecDepth 100000
namespace RX
open PySem L2

theorem all_mk {l : PySem.W.OpenLaw} {w : World} {K : PySem.W.Frag} {h : Heap} {mg : Str → Option Value} {fa C TT fI fA fS fM fN fFe fDr fGr fPa fSu fBy fIs fSa fFr fMi fCh fL : Addr} (X : K.In h) (G : h.Ns mainGlobals mg) (hfa : mg "law" = some (.ref fa))
    {odT odI odA odS odM odN odFe odDr odGr odPa odSu odBy odIs odSa odFr odMi odCh odL anI anA anS anM anN anFe anDr anGr anPa anSu anBy anIs anSa anFr anMi anCh anL : Option Addr} {slT slI slA slS slM slN slFe slDr slGr slPa slSu slBy slIs slSa slFr slMi slCh slL : Array (Option Value)} {ocT ocI kVI dcI pmI cdI ctI ocA kVA dcA pmA cdA ctA ocS kVS dcS pmS cdS ctS ocM kVM dcM pmM cdM ctM ocN kVN dcN pmN cdN ctN ocFe kVFe dcFe pmFe cdFe ctFe ocDr kVDr dcDr pmDr cdDr ctDr ocGr kVGr dcGr pmGr cdGr ctGr ocPa kVPa dcPa pmPa cdPa ctPa ocSu kVSu dcSu pmSu cdSu ctSu ocBy kVBy dcBy pmBy cdBy ctBy ocIs kVIs dcIs pmIs cdIs ctIs ocSa kVSa dcSa pmSa cdSa ctSa ocFr kVFr dcFr pmFr cdFr ctFr ocMi kVMi dcMi pmMi cdMi ctMi ocCh kVCh dcCh pmCh cdCh ctCh ocL kVL dcL pmL cdL ctL : Value} {tkT : Tok} {nT0 : Nat}
    (aC : PySem.W.nsIn K mainGlobals "Ratio" = some (some (.ref C)))
    (aG : PySem.W.nsIn K mainGlobals "gcd" = some (some (.builtin "math.gcd")))
    (aI : PySem.W.findIn K (.ref C) "__init__" = some (some (.ref fI)))
    (iI : PySem.W.isFn K (.ref fI) = true)
    (lI : K.lookup fI = some ⟨ocI, odI, .func (PySem.W.fnOf "__init__" "Ratio.__init__" (defArgs sInit) (defBody sInit) (defScope sInit) (.ref TT) kVI dcI pmI anI cdI ctI), slI⟩)
    (cI : PySem.W.codeIn K cdI "Ratio.__init__" = true)
    (kI : PySem.W.keepIn K (.ref fI) = true)
    (aA : PySem.W.findIn K (.ref C) "__add__" = some (some (.ref fA)))
    (iA : PySem.W.isFn K (.ref fA) = true)
    (lA : K.lookup fA = some ⟨ocA, odA, .func (PySem.W.fnOf "__add__" "Ratio.__add__" (defArgs sAdd) (defBody sAdd) (defScope sAdd) .none kVA dcA pmA anA cdA ctA), slA⟩)
    (cA : PySem.W.codeIn K cdA "Ratio.__add__" = true)
    (kA : PySem.W.keepIn K (.ref fA) = true)
    (aS : PySem.W.findIn K (.ref C) "__sub__" = some (some (.ref fS)))
    (iS : PySem.W.isFn K (.ref fS) = true)
    (lS : K.lookup fS = some ⟨ocS, odS, .func (PySem.W.fnOf "__sub__" "Ratio.__sub__" (defArgs sSub) (defBody sSub) (defScope sSub) .none kVS dcS pmS anS cdS ctS), slS⟩)
    (cS : PySem.W.codeIn K cdS "Ratio.__sub__" = true)
    (kS : PySem.W.keepIn K (.ref fS) = true)
    (aM : PySem.W.findIn K (.ref C) "__mul__" = some (some (.ref fM)))
    (iM : PySem.W.isFn K (.ref fM) = true)
    (lM : K.lookup fM = some ⟨ocM, odM, .func (PySem.W.fnOf "__mul__" "Ratio.__mul__" (defArgs sMul) (defBody sMul) (defScope sMul) .none kVM dcM pmM anM cdM ctM), slM⟩)
    (cM : PySem.W.codeIn K cdM "Ratio.__mul__" = true)
    (kM : PySem.W.keepIn K (.ref fM) = true)
    (aN : PySem.W.findIn K (.ref C) "__neg__" = some (some (.ref fN)))
    (iN : PySem.W.isFn K (.ref fN) = true)
    (lN : K.lookup fN = some ⟨ocN, odN, .func (PySem.W.fnOf "__neg__" "Ratio.__neg__" (defArgs sNeg) (defBody sNeg) (defScope sNeg) .none kVN dcN pmN anN cdN ctN), slN⟩)
    (cN : PySem.W.codeIn K cdN "Ratio.__neg__" = true)
    (kN : PySem.W.keepIn K (.ref fN) = true)
    (lT : K.lookup TT = some ⟨ocT, odT, .seq #[.int 1 tkT] nT0, slT⟩)
    (aFe : PySem.W.nsIn K mainGlobals "_law_feed" = some (some (.ref fFe)))
    (lFe : K.lookup fFe = some ⟨ocFe, odFe, .func (PySem.W.fnOf "_law_feed" "_law_feed" (defArgs sFeed) (defBody sFeed) (defScope sFeed) .none kVFe dcFe pmFe anFe cdFe ctFe), slFe⟩)
    (cFe : PySem.W.codeIn K cdFe "_law_feed" = true)
    (kFe : PySem.W.keepIn K (.ref fFe) = true)
    (aDr : PySem.W.nsIn K mainGlobals "_law_draw" = some (some (.ref fDr)))
    (lDr : K.lookup fDr = some ⟨ocDr, odDr, .func (PySem.W.fnOf "_law_draw" "_law_draw" (defArgs sDraw) (defBody sDraw) (defScope sDraw) .none kVDr dcDr pmDr anDr cdDr ctDr), slDr⟩)
    (cDr : PySem.W.codeIn K cdDr "_law_draw" = true)
    (kDr : PySem.W.keepIn K (.ref fDr) = true)
    (aGr : PySem.W.nsIn K mainGlobals "_law_great" = some (some (.ref fGr)))
    (lGr : K.lookup fGr = some ⟨ocGr, odGr, .func (PySem.W.fnOf "_law_great" "_law_great" (defArgs sGreat) (defBody sGreat) (defScope sGreat) .none kVGr dcGr pmGr anGr cdGr ctGr), slGr⟩)
    (cGr : PySem.W.codeIn K cdGr "_law_great" = true)
    (kGr : PySem.W.keepIn K (.ref fGr) = true)
    (aPa : PySem.W.nsIn K mainGlobals "_law_pair" = some (some (.ref fPa)))
    (lPa : K.lookup fPa = some ⟨ocPa, odPa, .func (PySem.W.fnOf "_law_pair" "_law_pair" (defArgs sPair) (defBody sPair) (defScope sPair) .none kVPa dcPa pmPa anPa cdPa ctPa), slPa⟩)
    (cPa : PySem.W.codeIn K cdPa "_law_pair" = true)
    (kPa : PySem.W.keepIn K (.ref fPa) = true)
    (aSu : PySem.W.nsIn K mainGlobals "_law_sum" = some (some (.ref fSu)))
    (lSu : K.lookup fSu = some ⟨ocSu, odSu, .func (PySem.W.fnOf "_law_sum" "_law_sum" (defArgs sSum) (defBody sSum) (defScope sSum) .none kVSu dcSu pmSu anSu cdSu ctSu), slSu⟩)
    (cSu : PySem.W.codeIn K cdSu "_law_sum" = true)
    (kSu : PySem.W.keepIn K (.ref fSu) = true)
    (aBy : PySem.W.nsIn K mainGlobals "_law_by" = some (some (.ref fBy)))
    (lBy : K.lookup fBy = some ⟨ocBy, odBy, .func (PySem.W.fnOf "_law_by" "_law_by" (defArgs sBy) (defBody sBy) (defScope sBy) .none kVBy dcBy pmBy anBy cdBy ctBy), slBy⟩)
    (cBy : PySem.W.codeIn K cdBy "_law_by" = true)
    (kBy : PySem.W.keepIn K (.ref fBy) = true)
    (aIs : PySem.W.nsIn K mainGlobals "_law_is_integer" = some (some (.ref fIs)))
    (lIs : K.lookup fIs = some ⟨ocIs, odIs, .func (PySem.W.fnOf "_law_is_integer" "_law_is_integer" (defArgs sIsInt) (defBody sIsInt) (defScope sIsInt) .none kVIs dcIs pmIs anIs cdIs ctIs), slIs⟩)
    (cIs : PySem.W.codeIn K cdIs "_law_is_integer" = true)
    (kIs : PySem.W.keepIn K (.ref fIs) = true)
    (aSa : PySem.W.nsIn K mainGlobals "_law_same" = some (some (.ref fSa)))
    (lSa : K.lookup fSa = some ⟨ocSa, odSa, .func (PySem.W.fnOf "_law_same" "_law_same" (defArgs sSame) (defBody sSame) (defScope sSame) .none kVSa dcSa pmSa anSa cdSa ctSa), slSa⟩)
    (cSa : PySem.W.codeIn K cdSa "_law_same" = true)
    (kSa : PySem.W.keepIn K (.ref fSa) = true)
    (aFr : PySem.W.nsIn K mainGlobals "_law_fraction" = some (some (.ref fFr)))
    (lFr : K.lookup fFr = some ⟨ocFr, odFr, .func (PySem.W.fnOf "_law_fraction" "_law_fraction" (defArgs sFrac) (defBody sFrac) (defScope sFrac) .none kVFr dcFr pmFr anFr cdFr ctFr), slFr⟩)
    (cFr : PySem.W.codeIn K cdFr "_law_fraction" = true)
    (kFr : PySem.W.keepIn K (.ref fFr) = true)
    (aMi : PySem.W.nsIn K mainGlobals "_law_minus" = some (some (.ref fMi)))
    (lMi : K.lookup fMi = some ⟨ocMi, odMi, .func (PySem.W.fnOf "_law_minus" "_law_minus" (defArgs sMinus) (defBody sMinus) (defScope sMinus) .none kVMi dcMi pmMi anMi cdMi ctMi), slMi⟩)
    (cMi : PySem.W.codeIn K cdMi "_law_minus" = true)
    (kMi : PySem.W.keepIn K (.ref fMi) = true)
    (aCh : PySem.W.nsIn K mainGlobals "_law_chain" = some (some (.ref fCh)))
    (lCh : K.lookup fCh = some ⟨ocCh, odCh, .func (PySem.W.fnOf "_law_chain" "_law_chain" (defArgs sChain) (defBody sChain) (defScope sChain) .none kVCh dcCh pmCh anCh cdCh ctCh), slCh⟩)
    (cCh : PySem.W.codeIn K cdCh "_law_chain" = true)
    (kCh : PySem.W.keepIn K (.ref fCh) = true)
    (aL : PySem.W.nsIn K mainGlobals "law" = some (some (.ref fL)))
    (lL : K.lookup fL = some ⟨ocL, odL, .func (PySem.W.fnOf "law" "law" (defArgs sLaw) (defBody sLaw) (defScope sLaw) .none kVL dcL pmL anL cdL ctL), slL⟩)
    (cL : PySem.W.codeIn K cdL "law" = true)
    (kL : PySem.W.keepIn K (.ref fL) = true)
    (pg : PySem.W.plainGet K C Str.empty = true)
    (hd : PySem.W.hasDictIn K C = true)
    (po : PySem.W.plainOver K C = true)
    (sa : PySem.W.findIn K (.ref C) "__setattr__" = some (some (.builtin "object.__setattr__")))
    (mk : PySem.W.makesIn K C = true)
    (kc : PySem.W.keepIn K (.ref C) = true)
    (nT : PySem.W.findIn K (.ref C) "top" = some none)
    (nB : PySem.W.findIn K (.ref C) "bottom" = some none)
    (sf : PySem.W.selfFirst K C = true)
    (xa : PySem.W.findIn K (.ref C) "__class__" = some (some (.builtin "object.__class__")))
    (xn : PySem.W.specialIn K (.builtin "object.__class__") "__get__" = some (some (.builtin "getset_descriptor.__get__")))
    (xt : PySem.W.takesIn K (.builtin "object.__class__") = some true)
    (xm : PySem.W.mroIn K C (.type "object") = some true)
    (z_abs : PySem.W.nsIn K mainGlobals "abs" = some none)
    (z_len : PySem.W.nsIn K mainGlobals "len" = some none)
    (z_int : PySem.W.nsIn K mainGlobals "int" = some none)
    (z_max : PySem.W.nsIn K mainGlobals "max" = some none)
    (z_range : PySem.W.nsIn K mainGlobals "range" = some none)
    (z_isinstance : PySem.W.nsIn K mainGlobals "isinstance" = some none)
    (z_bool : PySem.W.nsIn K mainGlobals "bool" = some none)
    : ∃ fd : FuncData, (∀ (s : Shared) (v : Value), BindsTo s fd ⟨[v], []⟩ [("script", v)]) ∧ ∀ base : Heap, K.In base → base.Ns mainGlobals mg → FnOk l.prog w K mg base CX0 5 fa fd ["script"] (spLaw K) := by
  have e := hfa.symm.trans (PySem.W.mg_of X G aL)
  cases e
  have T : TxtL mg := ⟨PySem.W.mg_none_of X G z_abs, PySem.W.mg_none_of X G z_len, PySem.W.mg_none_of X G z_int, PySem.W.mg_none_of X G z_max, PySem.W.mg_none_of X G z_range, PySem.W.mg_none_of X G z_isinstance, PySem.W.mg_none_of X G z_bool⟩
  have TR : TxtR K mg C := ⟨⟨pg, hd, po, sa⟩, nT, nB, PySem.W.mg_of X G aC, PySem.W.mg_of X G aG⟩
  have xe : PySem.W.kitOne K (.ref C) (.ref C) = some true := by
    unfold PySem.W.kitOne
    rw [if_pos (beq_self_eq_true _)]
  have IC : C8.InsC K C := ⟨⟨pg, hd, po, sa⟩, xa, xn, xt, xm, xe⟩
  obtain ⟨fdI, FI⟩ : ∃ fd, FunD K "__init__" "Ratio.__init__" (defArgs sInit) (defBody sInit) (defScope sInit) [.int 1] [] fI fd := ⟨_, ⟨ocI, odI, .ref TT, kVI, dcI, pmI, anI, cdI, ctI, slI, rfl, lI, cI, .inr ⟨(fun z => nomatch z), TT, _, [.int 1 tkT], nT0, rfl, lT, rfl, .cons ⟨tkT, rfl⟩ .nil⟩, .inl rfl⟩, kI⟩
  have bI : Binds K fdI ["self", "top", "bottom"] [] := by
    obtain ⟨ds, v, b⟩ := FI.binds1 (ps := ["self", "top", "bottom"]) 3 1 (fun z => nomatch z) rfl fun T kV doc pm an cdv ct us its hu hi => match us, its, hu, hi with | [_, _, _], [_], _, _ => ⟨_, rfl, rfl⟩
    cases v
    exact b
  have bI1 : ∃ ds, Vals [V.int 1] ds ∧ Binds K fdI ["self", "top", "bottom"] ds := FI.binds1 (ps := ["self", "top", "bottom"]) 2 0 (fun z => nomatch z) rfl fun T kV doc pm an cdv ct us its hu hi => match us, its, hu, hi with | [_, _], [_], _, _ => ⟨_, rfl, rfl⟩
  have bIk : ∃ its : List Value, KBn K fdI ["self", "top", "bottom"] 2 ["bottom"] (fun us ws => us ++ ws) (fun vs zs => vs ++ zs) := FI.kbindsD (ps := ["self", "top", "bottom"]) 2 ["bottom"] (fun us _ ws => us ++ ws) (fun z => nomatch z) (fun r1 _ r3 => r1.append r3) fun T kV doc pm an cdv ct us its ws hu hi hw => match us, its, ws, hu, hi, hw with | [_, _], [_], [_], _, _, _ => ⟨_, rfl, rfl⟩
  have FA := fun_mk (st := sAdd) lA cA kA
  have bA := FA.binds (ps := ["self", "other"]) fun _ _ _ _ _ _ us hl => match us, hl with | [_, _], _ => rfl
  have FS := fun_mk (st := sSub) lS cS kS
  have bS := FS.binds (ps := ["self", "other"]) fun _ _ _ _ _ _ us hl => match us, hl with | [_, _], _ => rfl
  have FM := fun_mk (st := sMul) lM cM kM
  have bM := FM.binds (ps := ["self", "other"]) fun _ _ _ _ _ _ us hl => match us, hl with | [_, _], _ => rfl
  have FN := fun_mk (st := sNeg) lN cN kN
  have bN := FN.binds (ps := ["self"]) fun _ _ _ _ _ _ us hl => match us, hl with | [_], _ => rfl
  have FFe := fun_mk (st := sFeed) lFe cFe kFe
  have bFe := FFe.binds (ps := ["script"]) fun _ _ _ _ _ _ us hl => match us, hl with | [_], _ => rfl
  have mFe := PySem.W.mg_of X G aFe
  have FDr := fun_mk (st := sDraw) lDr cDr kDr
  have bDr := FDr.binds (ps := ["feed", "limit"]) fun _ _ _ _ _ _ us hl => match us, hl with | [_, _], _ => rfl
  have mDr := PySem.W.mg_of X G aDr
  have FGr := fun_mk (st := sGreat) lGr cGr kGr
  have bGr := FGr.binds (ps := ["feed", "parts"]) fun _ _ _ _ _ _ us hl => match us, hl with | [_, _], _ => rfl
  have mGr := PySem.W.mg_of X G aGr
  have FPa := fun_mk (st := sPair) lPa cPa kPa
  have bPa := FPa.binds (ps := ["above", "below"]) fun _ _ _ _ _ _ us hl => match us, hl with | [_, _], _ => rfl
  have mPa := PySem.W.mg_of X G aPa
  have FSu := fun_mk (st := sSum) lSu cSu kSu
  have bSu := FSu.binds (ps := ["one", "two"]) fun _ _ _ _ _ _ us hl => match us, hl with | [_, _], _ => rfl
  have mSu := PySem.W.mg_of X G aSu
  have FBy := fun_mk (st := sBy) lBy cBy kBy
  have bBy := FBy.binds (ps := ["one", "two"]) fun _ _ _ _ _ _ us hl => match us, hl with | [_, _], _ => rfl
  have mBy := PySem.W.mg_of X G aBy
  have FIs := fun_mk (st := sIsInt) lIs cIs kIs
  have bIs := FIs.binds (ps := ["actual"]) fun _ _ _ _ _ _ us hl => match us, hl with | [_], _ => rfl
  have mIs := PySem.W.mg_of X G aIs
  have FSa := fun_mk (st := sSame) lSa cSa kSa
  have bSa := FSa.binds (ps := ["actual", "due"]) fun _ _ _ _ _ _ us hl => match us, hl with | [_, _], _ => rfl
  have mSa := PySem.W.mg_of X G aSa
  have FFr := fun_mk (st := sFrac) lFr cFr kFr
  have bFr := FFr.binds (ps := ["feed", "parts"]) fun _ _ _ _ _ _ us hl => match us, hl with | [_, _], _ => rfl
  have mFr := PySem.W.mg_of X G aFr
  have FMi := fun_mk (st := sMinus) lMi cMi kMi
  have bMi := FMi.binds (ps := ["one"]) fun _ _ _ _ _ _ us hl => match us, hl with | [_], _ => rfl
  have mMi := PySem.W.mg_of X G aMi
  have FCh := fun_mk (st := sChain) lCh cCh kCh
  have bCh := FCh.binds (ps := ["made", "dues"]) fun _ _ _ _ _ _ us hl => match us, hl with | [_, _], _ => rfl
  have mCh := PySem.W.mg_of X G aCh
  refine ⟨PySem.W.fnOf "law" "law" (defArgs sLaw) (defBody sLaw) (defScope sLaw) .none kVL dcL pmL anL cdL ctL, fun s v => .of_eq rfl, fun base _ _ => ?_⟩
  have M : Mk K C fI := ⟨mk, aI, iI, kc⟩
  have GI := ok_init (P := l.prog) (w := w) (base := base) FI TR
  have O : Ops l.prog w K mg base C fA fS fM fN _ _ _ _ := ⟨⟨sf, aA, iA⟩, ⟨sf, aS, iS⟩, ⟨sf, aM, iM⟩, aN, iN, ok_add TR M GI bI FA, ok_sub TR M GI bI FS, ok_mul TR M GI bI FM, ok_neg TR M GI bI FN, bA, bS, bM, bN⟩
  have gFe : CalN l.prog w K mg base "_law_feed" 1 ["script"] (spFeed K) fFe _ := ⟨ok_feed FFe T, mFe, kFe, bFe⟩
  have gDr : CalN l.prog w K mg base "_law_draw" 1 ["feed", "limit"] spDraw fDr _ := ⟨ok_draw FDr T, mDr, kDr, bDr⟩
  have gGr : CalN l.prog w K mg base "_law_great" 2 ["feed", "parts"] spGreat fGr _ := ⟨ok_great FGr T gDr.G mDr kDr bDr, mGr, kGr, bGr⟩
  have gPa : CalN l.prog w K mg base "_law_pair" 1 ["above", "below"] spPair fPa _ := ⟨ok_pair FPa T, mPa, kPa, bPa⟩
  have gSu : CalN l.prog w K mg base "_law_sum" 2 ["one", "two"] spSum fSu _ := ⟨ok_sum FSu gPa.G mPa kPa bPa, mSu, kSu, bSu⟩
  have gBy : CalN l.prog w K mg base "_law_by" 2 ["one", "two"] spBy fBy _ := ⟨ok_by FBy gPa.G mPa kPa bPa, mBy, kBy, bBy⟩
  have gIs : CalN l.prog w K mg base "_law_is_integer" 1 ["actual"] spIsInt fIs _ := ⟨ok_isInt FIs T, mIs, kIs, bIs⟩
  have gSa : CalN l.prog w K mg base "_law_same" 2 ["actual", "due"] (spSame C) fSa _ := ⟨ok_same FSa T TR IC gIs.G mIs kIs bIs, mSa, kSa, bSa⟩
  have gFr : CalN l.prog w K mg base "_law_fraction" 3 ["feed", "parts"] spFrac fFr _ := ⟨ok_frac FFr T gDr.G mDr kDr bDr gGr.G mGr kGr bGr, mFr, kFr, bFr⟩
  have gMi : CalN l.prog w K mg base "_law_minus" 1 ["one"] spMinus fMi _ := ⟨ok_minus FMi, mMi, kMi, bMi⟩
  have gCh : CalN l.prog w K mg base "_law_chain" 4 ["made", "dues"] (spChain C) fCh _ := ⟨ok_chain FCh O gSu gBy gSa, mCh, kCh, bCh⟩
  exact ok_law (fun_mk (st := sLaw) lL cL kL) T TR O M GI bI bI1 bIk gFe gDr gFr gPa gSu gBy gSa gMi gCh
theorem walk {l : PySem.W.OpenLaw} {q : Program} {loose : List Str} {XP : (Str → Option Value) → Heap → Prop} {YP : World → Heap → Prop} {d : DefRec} {K : Params → PySem.W.Frag} (hn : l.most = some 63) (hdf : d.params.defaults = [])
    (hY : ∀ (w : World) (h : Heap), YP w h → (K w.params).In h)
    (F : ∀ (w : World) (mg : Str → Option Value) (fa : Addr) (h : Heap), (K w.params).In h → h.Ns mainGlobals mg → mg d.name = some (.ref fa) →
      ∃ fd : FuncData, (∀ (s : Shared) (u : Value), BindsTo s fd ⟨[u], []⟩ [("script", u)]) ∧ ∀ base : Heap, (K w.params).In base → base.Ns mainGlobals mg → FnOk l.prog w (K w.params) mg base CX0 5 fa fd ["script"] (spLaw (K w.params))) :
    PySem.W.WalkO q loose XP YP l.row.toRowW d [] (fun f vs => PySem.call f vs) :=
  L2.walk_of (n := 63) (k := 5) (x := "script") (CX := fun _ => CX0) (sp := fun w => spLaw (K w.params)) hn (by decide) hdf ⟨rfl, by decide, by decide⟩ hY F (fun _ _ a ns hl _ hS => ⟨a, ns, rfl, hS, hl, fun _ => rfl⟩) fun _ _ _ _ _ z => z
end RX

set_option Elab.async false

open PySem PySem.W PyProof.Rows in
set_option maxRecDepth 100000 in
set_option maxHeartbeats 0 in
theorem PySem.Challenge.cw_wordworth_k01_ratio_arithmetic_holds : PySem.Challenge.rw_wordworth_k01_ratio_arithmetic.Holds := by
  w_on; o_law; k_head; (case hw => w_witness2)
  k_fill
  refine RX.walk (l := PySem.Challenge.rw_wordworth_k01_ratio_arithmetic) rfl rfl (fun w h Y => PySem.W.kIn_of Y) ?F
  case F =>
    intro w mg fa h KX G hmg
    refine' RX.all_mk KX G hmg ?aC ?aG ?aI ?iI ?lI ?cI ?kI ?aA ?iA ?lA ?cA ?kA ?aS ?iS ?lS ?cS ?kS ?aM ?iM ?lM ?cM ?kM ?aN ?iN ?lN ?cN ?kN ?lT ?aFe ?lFe ?cFe ?kFe ?aDr ?lDr ?cDr ?kDr ?aGr ?lGr ?cGr ?kGr ?aPa ?lPa ?cPa ?kPa ?aSu ?lSu ?cSu ?kSu ?aBy ?lBy ?cBy ?kBy ?aIs ?lIs ?cIs ?kIs ?aSa ?lSa ?cSa ?kSa ?aFr ?lFr ?cFr ?kFr ?aMi ?lMi ?cMi ?kMi ?aCh ?lCh ?cCh ?kCh ?aL ?lL ?cL ?kL ?pg ?hd ?po ?sa ?mk ?kc ?nT ?nB ?sf ?xa ?xn ?xt ?xm ?z_abs ?z_len ?z_int ?z_max ?z_range ?z_isinstance ?z_bool
    (case aC => k_is)
    (case aG => k_is)
    (case aI => k_is)
    (case iI => k_is)
    (case lI => k_is)
    (case cI => k_is)
    (case kI => k_is)
    (case aA => k_is)
    (case iA => k_is)
    (case lA => k_is)
    (case cA => k_is)
    (case kA => k_is)
    (case aS => k_is)
    (case iS => k_is)
    (case lS => k_is)
    (case cS => k_is)
    (case kS => k_is)
    (case aM => k_is)
    (case iM => k_is)
    (case lM => k_is)
    (case cM => k_is)
    (case kM => k_is)
    (case aN => k_is)
    (case iN => k_is)
    (case lN => k_is)
    (case cN => k_is)
    (case kN => k_is)
    (case lT => k_is)
    (case aFe => k_is)
    (case lFe => k_is)
    (case cFe => k_is)
    (case kFe => k_is)
    (case aDr => k_is)
    (case lDr => k_is)
    (case cDr => k_is)
    (case kDr => k_is)
    (case aGr => k_is)
    (case lGr => k_is)
    (case cGr => k_is)
    (case kGr => k_is)
    (case aPa => k_is)
    (case lPa => k_is)
    (case cPa => k_is)
    (case kPa => k_is)
    (case aSu => k_is)
    (case lSu => k_is)
    (case cSu => k_is)
    (case kSu => k_is)
    (case aBy => k_is)
    (case lBy => k_is)
    (case cBy => k_is)
    (case kBy => k_is)
    (case aIs => k_is)
    (case lIs => k_is)
    (case cIs => k_is)
    (case kIs => k_is)
    (case aSa => k_is)
    (case lSa => k_is)
    (case cSa => k_is)
    (case kSa => k_is)
    (case aFr => k_is)
    (case lFr => k_is)
    (case cFr => k_is)
    (case kFr => k_is)
    (case aMi => k_is)
    (case lMi => k_is)
    (case cMi => k_is)
    (case kMi => k_is)
    (case aCh => k_is)
    (case lCh => k_is)
    (case cCh => k_is)
    (case kCh => k_is)
    (case aL => k_is)
    (case lL => k_is)
    (case cL => k_is)
    (case kL => k_is)
    (case pg => k_is)
    (case hd => k_is)
    (case po => k_is)
    (case sa => k_is)
    (case mk => k_is)
    (case kc => k_is)
    (case nT => k_is)
    (case nB => k_is)
    (case sf => k_is)
    (case xa => k_is)
    (case xn => k_is)
    (case xt => k_is)
    (case xm => k_is)
    (case z_abs => k_is)
    (case z_len => k_is)
    (case z_int => k_is)
    (case z_max => k_is)
    (case z_range => k_is)
    (case z_isinstance => k_is)
    (case z_bool => k_is)

