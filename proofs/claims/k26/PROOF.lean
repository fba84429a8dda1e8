import PyProof.Rows.All
import Wide.All
import OpenK.AllK
import Wide.FinOn
import HandS.Call
import HandS.List
import HandS.Wide
import KE.KOpsOwn
import HandS.ForMost
import HandS.Gcd
import HandS.MakeKw
import HandS.IsInst
import HandS.Codes
import HandS.Zip
import HandS.Ends
import KE.KMathG
import HandS.Walk
import HandS.Text
import HandS.Style
import HandS.Iter
import HandS.Property
import HandS.FStr
import PySem.Challenge.RW_wordworth_k26_write_sum
/-! lowest terms, in plain Lean -/
namespace RT
def gg (t b : Int) : Int := ((Nat.gcd t.natAbs b.natAbs : Nat) : Int)
def byv (t b : Int) : Int := if b > 0 then gg t b else -(gg t b)
def top (t b : Int) : Int := t.fdiv (byv t b)
def bot (t b : Int) : Int := b.fdiv (byv t b)
theorem gg_pos {t b : Int} (h : b ≠ 0) : 0 < gg t b := by
  have : 0 < Nat.gcd t.natAbs b.natAbs := Nat.gcd_pos_of_pos_right _ (by omega)
  unfold gg; omega
theorem byv_ne {t b : Int} (h : b ≠ 0) : byv t b ≠ 0 := by
  have := gg_pos (t := t) h
  unfold byv; split <;> omega
theorem gg_dvd_l (t b : Int) : gg t b ∣ t := by
  unfold gg
  exact Int.ofNat_dvd_left.mpr (Nat.gcd_dvd_left _ _)
theorem gg_dvd_r (t b : Int) : gg t b ∣ b := by
  unfold gg
  exact Int.ofNat_dvd_left.mpr (Nat.gcd_dvd_right _ _)
theorem byv_dvd_l (t b : Int) : byv t b ∣ t := by
  unfold byv; split
  · exact gg_dvd_l t b
  · exact Int.neg_dvd.mpr (gg_dvd_l t b)
theorem byv_dvd_r (t b : Int) : byv t b ∣ b := by
  unfold byv; split
  · exact gg_dvd_r t b
  · exact Int.neg_dvd.mpr (gg_dvd_r t b)
theorem byv_natAbs (t b : Int) : (byv t b).natAbs = Nat.gcd t.natAbs b.natAbs := by
  unfold byv gg; split <;> simp
theorem fdiv_of_dvd {a b : Int} (hb : b ≠ 0) (h : b ∣ a) : a.fdiv b * b = a := by
  obtain ⟨k, rfl⟩ := h
  rw [Int.mul_fdiv_cancel_left _ hb, Int.mul_comm]
theorem top_mul {t b : Int} (h : b ≠ 0) : top t b * byv t b = t := fdiv_of_dvd (byv_ne h) (byv_dvd_l t b)
theorem bot_mul {t b : Int} (h : b ≠ 0) : bot t b * byv t b = b := fdiv_of_dvd (byv_ne h) (byv_dvd_r t b)
theorem bot_pos {t b : Int} (h : b ≠ 0) : 0 < bot t b := by
  have e := bot_mul (t := t) h
  have g := gg_pos (t := t) h
  unfold byv at e
  split at e
  · rename_i hb
    rcases Int.lt_trichotomy (bot t b) 0 with z | z | z
    · have := Int.mul_neg_of_neg_of_pos z g; omega
    · rw [z] at e; omega
    · exact z
  · rename_i hb
    rcases Int.lt_trichotomy (bot t b) 0 with z | z | z
    · have := Int.mul_neg_of_neg_of_pos z g
      have h2 : bot t b * -gg t b = -(bot t b * gg t b) := Int.mul_neg _ _
      omega
    · rw [z] at e; omega
    · exact z
theorem cop {t b : Int} (h : b ≠ 0) : Nat.Coprime (top t b).natAbs (bot t b).natAbs := by
  have e1 : (top t b).natAbs * Nat.gcd t.natAbs b.natAbs = t.natAbs := by
    rw [← byv_natAbs, ← Int.natAbs_mul, top_mul h]
  have e2 : (bot t b).natAbs * Nat.gcd t.natAbs b.natAbs = b.natAbs := by
    rw [← byv_natAbs, ← Int.natAbs_mul, bot_mul h]
  have hp : 0 < Nat.gcd t.natAbs b.natAbs := Nat.gcd_pos_of_pos_right _ (by omega)
  have : Nat.gcd ((top t b).natAbs * Nat.gcd t.natAbs b.natAbs) ((bot t b).natAbs * Nat.gcd t.natAbs b.natAbs) = Nat.gcd t.natAbs b.natAbs := by rw [e1, e2]
  rw [Nat.gcd_mul_right] at this
  unfold Nat.Coprime
  exact Nat.eq_of_mul_eq_mul_right hp (by rw [this, Nat.one_mul])
/-- two in lowest terms that are worth the same are the same -/
theorem uniq {n d n' d' : Int} (hd : 0 < d) (hd' : 0 < d') (c : Nat.Coprime n.natAbs d.natAbs) (c' : Nat.Coprime n'.natAbs d'.natAbs) (e : n * d' = n' * d) : n = n' ∧ d = d' := by
  have ea : n.natAbs * d'.natAbs = n'.natAbs * d.natAbs := by rw [← Int.natAbs_mul, e, Int.natAbs_mul]
  have h1 : d.natAbs ∣ d'.natAbs := c.symm.dvd_of_dvd_mul_left ⟨n'.natAbs, by rw [ea, Nat.mul_comm]⟩
  have h2 : d'.natAbs ∣ d.natAbs := c'.symm.dvd_of_dvd_mul_left ⟨n.natAbs, by rw [← ea, Nat.mul_comm]⟩
  have h3 : d.natAbs = d'.natAbs := Nat.dvd_antisymm h1 h2
  have h4 : d = d' := by omega
  subst h4
  exact ⟨Int.eq_of_mul_eq_mul_right (by omega) e, rfl⟩
theorem same {t b t' b' : Int} (h : b ≠ 0) (h' : b' ≠ 0) (e : t * b' = t' * b) : top t b = top t' b' ∧ bot t b = bot t' b' := by
  refine uniq (bot_pos h) (bot_pos h') (cop h) (cop h') ?_
  have e1 := top_mul (t := t) h
  have e2 := bot_mul (t := t) h
  have e3 := top_mul (t := t') h'
  have e4 := bot_mul (t := t') h'
  refine Int.eq_of_mul_eq_mul_right (byv_ne (t := t) h) (Int.eq_of_mul_eq_mul_right (byv_ne (t := t') h') ?_)
  calc top t b * bot t' b' * byv t b * byv t' b' = (top t b * byv t b) * (bot t' b' * byv t' b') := by ac_rfl
    _ = t * b' := by rw [e1, e4]
    _ = t' * b := e
    _ = (top t' b' * byv t' b') * (bot t b * byv t b) := by rw [e3, e2]
    _ = top t' b' * bot t b * byv t b * byv t' b' := by ac_rfl
/-- what is in lowest terms stays -/
theorem keeps {n d : Int} (hd : 0 < d) (c : Nat.Coprime n.natAbs d.natAbs) : top n d = n ∧ bot n d = d := by
  have h : d ≠ 0 := by omega
  refine uniq (bot_pos h) hd (cop h) c ?_
  have e1 := top_mul (t := n) h
  have e2 := bot_mul (t := n) h
  refine Int.eq_of_mul_eq_mul_right (byv_ne (t := n) h) ?_
  calc top n d * d * byv n d = (top n d * byv n d) * d := by ac_rfl
    _ = n * d := by rw [e1]
    _ = n * (bot n d * byv n d) := by rw [e2]
    _ = n * bot n d * byv n d := by ac_rfl
theorem one (t : Int) : top t 1 = t ∧ bot t 1 = 1 := keeps (by decide) (Nat.coprime_one_right _)
/-- worth: the fraction is the same number -/
theorem cross {t b : Int} (h : b ≠ 0) : top t b * b = t * bot t b := by
  have e1 := top_mul (t := t) h
  have e2 := bot_mul (t := t) h
  have e : top t b * b = top t b * (bot t b * byv t b) := by rw [e2]
  have e' : t * bot t b = (top t b * byv t b) * bot t b := by rw [e1]
  rw [e, e']; ac_rfl
theorem top_le {t b : Int} (h : b ≠ 0) : (top t b).natAbs ≤ t.natAbs := by
  have e1 : (top t b).natAbs * (byv t b).natAbs = t.natAbs := by rw [← Int.natAbs_mul, top_mul h]
  have : 0 < (byv t b).natAbs := by have := byv_ne (t := t) h; omega
  rw [← e1]; exact Nat.le_mul_of_pos_right _ this
theorem bot_le {t b : Int} (h : b ≠ 0) : (bot t b).natAbs ≤ b.natAbs := by
  have e1 : (bot t b).natAbs * (byv t b).natAbs = b.natAbs := by rw [← Int.natAbs_mul, bot_mul h]
  have : 0 < (byv t b).natAbs := by have := byv_ne (t := t) h; omega
  rw [← e1]; exact Nat.le_mul_of_pos_right _ this
theorem byv_le {t b : Int} (h : b ≠ 0) : (byv t b).natAbs ≤ b.natAbs := by
  rw [byv_natAbs]; exact Nat.le_of_dvd (by omega) (Nat.gcd_dvd_right _ _)
/-- minus and less -/
theorem neg_cop {n d : Int} (c : Nat.Coprime n.natAbs d.natAbs) : Nat.Coprime (0 - n).natAbs d.natAbs := by
  have : (0 - n).natAbs = n.natAbs := by omega
  rw [this]; exact c
/-- distributive, over lowest terms -/
theorem chain {a b c d e f : Int} (hb : b ≠ 0) (hd : d ≠ 0) (hf : f ≠ 0) :
    top (top (a * e) (b * f) * bot (c * e) (d * f) + top (c * e) (d * f) * bot (a * e) (b * f)) (bot (a * e) (b * f) * bot (c * e) (d * f))
      = top (top (a * d + c * b) (b * d) * e) (bot (a * d + c * b) (b * d) * f) ∧
    bot (top (a * e) (b * f) * bot (c * e) (d * f) + top (c * e) (d * f) * bot (a * e) (b * f)) (bot (a * e) (b * f) * bot (c * e) (d * f))
      = bot (top (a * d + c * b) (b * d) * e) (bot (a * d + c * b) (b * d) * f) := by
  have h1 : b * f ≠ 0 := Int.mul_ne_zero hb hf
  have h2 : d * f ≠ 0 := Int.mul_ne_zero hd hf
  have h3 : b * d ≠ 0 := Int.mul_ne_zero hb hd
  have p1 := bot_pos (t := a * e) h1
  have p2 := bot_pos (t := c * e) h2
  have p3 := bot_pos (t := a * d + c * b) h3
  have x1 := cross (t := a * e) h1
  have x2 := cross (t := c * e) h2
  have x3 := cross (t := a * d + c * b) h3
  generalize top (a * e) (b * f) = n1 at *
  generalize bot (a * e) (b * f) = d1 at *
  generalize top (c * e) (d * f) = n2 at *
  generalize bot (c * e) (d * f) = d2 at *
  generalize top (a * d + c * b) (b * d) = n3 at *
  generalize bot (a * d + c * b) (b * d) = d3 at *
  refine same (Int.mul_ne_zero (by omega) (by omega)) (Int.mul_ne_zero (by omega) hf) ?_
  -- (n1 d2 + n2 d1) (d3 f) = (n3 e) (d1 d2)
  refine Int.eq_of_mul_eq_mul_right h3 (Int.eq_of_mul_eq_mul_right hf ?_)
  have L : (n1 * d2 + n2 * d1) * (d3 * f) * (b * d) * f = ((n1 * (b * f)) * (d2 * d * d3) + (n2 * (d * f)) * (d1 * b * d3)) * f := by
    simp only [Int.add_mul, Int.mul_add]
    congr 1 <;> ac_rfl
  have R : n3 * e * (d1 * d2) * (b * d) * f = (n3 * (b * d)) * (e * d1 * d2 * f) := by ac_rfl
  rw [L, R, x1, x2, x3]
  simp only [Int.add_mul, Int.mul_add]
  congr 1 <;> ac_rfl
end RT

set_option Elab.async false
set_option maxRecDepth 100000
namespace RX
open PySem PySem.Spec PyProof.Rows L2
/-- // by a divisor of either sign, below 2 ^ 9000 -/
def CDivZ (_ j : Int) : Prop := j ≠ 0 ∧ j.natAbs.log2 < 9000
theorem op_fdivZ {X : Cx} : OpR X (binaryOp .FloorDiv) (rI CDivZ fun i j => .int (i.fdiv j)) := opI fun _ _ _ _ _ _ _ hc q => floordiv_int hc.1 q (.inl (PyProof.noPylong_of_log2 hc.2))
theorem divZ {i j : Int} {b : Nat} (h : j ≠ 0) (hb : j.natAbs < 2 ^ b) (h0 : 0 < b) (h9 : b ≤ 9000) : CDivZ i j := ⟨h, Nat.lt_of_lt_of_le (PySem.Flt.log2_lt_of h0 hb) h9⟩
/-- the class at C has the operator op as the def at f -/
structure OpOf (K : PySem.W.Frag) (C : Addr) (x : Str) (f : Addr) : Prop where
  first : PySem.W.selfFirst K C = true
  at_ : PySem.W.findIn K (.ref C) x = some (some (.ref f))
  fn : PySem.W.isFn K (.ref f) = true
/-- a op b, both instances of the class at C: what the operator's def promises; it hands back an object -/
def rOwn (C : Addr) (sp : Sp) (E : XK) : R2 := fun x y H Q => ∃ a b dx dy fs gs, x = .ref a ∧ y = .ref b ∧ H a = some (.ins C dx fs) ∧ H b = some (.ins C dy gs) ∧ sp [.ref a, .ref b] H (fun v H' => (∃ c, v = .ref c) ∧ Q v H') E
def rOwn1 (C : Addr) (sp : Sp) (E : XK) : V → Hp → VK → Prop := fun x H Q => ∃ a dx fs, x = .ref a ∧ H a = some (.ins C dx fs) ∧ sp [.ref a] H Q E
section
variable {X : Cx} {CX : CXT} {k : Nat} {C f : Addr} {fd : FuncData} {ps : List Str} {sp : Sp} {E : XK}
theorem op_own {op : Operator} (O : OpOf X.K C (PySem.dunder op.info.2) f) (F : FnOk X.prog X.w X.K X.mg X.base CX k f fd ps sp) (hr : Room k X.A) (hb : Binds X.K fd ps []) (hx : Passes CX X E) : OpR X (binaryOp op) (rOwn C sp E) := by
  intro pins s σ H x y v u Q I rx ry h
  obtain ⟨a, b, dx, dy, fs, gs, rfl, rfl, ha, hb', hs⟩ := h
  cases rx
  cases ry
  obtain ⟨mA, J, _⟩ := ins_get I.hok ha
  obtain ⟨mB, J', _⟩ := ins_get I.hok hb'
  obtain ⟨od, J, _⟩ := J.look
  obtain ⟨od', J', _⟩ := J'.look
  obtain ⟨m, hF⟩ := I.fr
  refine PySem.W.binop_K hF I.ok.mod.kin J J'.type O.first O.at_ O.fn ?_
  refine thn (run_fn (us := [.ref a, .ref b]) (vs := [.ref a, .ref b]) (dvs := []) (ds := []) F hr hb .nil hx I (.cons rfl (.cons rfl .nil)) hs) fun w' s' hq => ?_
  obtain ⟨z, H', I', rz, ⟨c, ez⟩, q⟩ := hq
  subst ez
  cases rz
  exact ⟨.ref c, H', I', rfl, q⟩
theorem un_own {op : UnaryOp} (h1 : op = .USub) (hs : PySem.W.findIn X.K (.ref C) "__neg__" = some (some (.ref f))) (hf : PySem.W.isFn X.K (.ref f) = true) (F : FnOk X.prog X.w X.K X.mg X.base CX k f fd ps sp) (hr : Room k X.A) (hb : Binds X.K fd ps []) (hx : Passes CX X E) : UnR X (unaryOp op) (rOwn1 C sp E) := by
  subst h1
  intro pins s σ H x v Q I rx h
  obtain ⟨a, dx, fs, rfl, ha, hsp⟩ := h
  cases rx
  obtain ⟨mA, J, _⟩ := ins_get I.hok ha
  obtain ⟨od, J, _⟩ := J.look
  obtain ⟨m, hF⟩ := I.fr
  refine PySem.W.ksp_neg hF I.ok.mod.kin J hs hf ?_
  exact run_fn (us := [.ref a]) (vs := [.ref a]) (dvs := []) (ds := []) F hr hb .nil hx I (.cons rfl .nil) hsp
end
end RX

set_option Elab.async false
set_option maxRecDepth 100000
namespace RX
open PySem L2
def topS (i : Nat) : Stmt := PySem.Challenge.pw_wordworth_k26_write_sum.main.body.getD i (.Pass ⟨0, 0, 0, 0⟩)
abbrev sInit : Stmt := inClass (topS 6) 0
abbrev sAdd : Stmt := inClass (topS 6) 1
abbrev sSub : Stmt := inClass (topS 6) 2
abbrev sMul : Stmt := inClass (topS 6) 3
abbrev sNeg : Stmt := inClass (topS 6) 4
/-! ### a Ratio -/
theorem tb : ¬ (("top" : Str) = "bottom") := by decide +kernel
def rf (n d : Int) : List (Str × V) := putF "bottom" (.int d) (putF "top" (.int n) [])
theorem rf_top (n d : Int) : (rf n d).lookup ("top" : Str) = some (.int n) := by
  unfold rf
  rw [lookup_putF, if_neg tb, lookup_putF, if_pos rfl]
theorem rf_bot (n d : Int) : (rf n d).lookup ("bottom" : Str) = some (.int d) := by
  unfold rf
  rw [lookup_putF, if_pos rfl]
theorem rf_no (n d : Int) {m : Str} (h1 : ¬ m = "bottom") (h2 : ¬ m = "top") : (rf n d).lookup m = none := by
  unfold rf
  rw [lookup_putF, if_neg h1, lookup_putF, if_neg h2]
  all_goals rfl
/-- the Ratio n / d stands at p -/
def RatAt (C : Addr) (H : Hp) (p : Addr) (n d : Int) : Prop := ∃ dx, H p = some (.ins C dx (rf n d))
theorem RatAt.same {C : Addr} {H H' : Hp} {p : Addr} {n d : Int} (s : Same H H') (h : RatAt C H p n d) : RatAt C H' p n d := let ⟨dx, e⟩ := h; ⟨dx, s _ _ e⟩
theorem Same.upd {H : Hp} {p : Addr} {o : HO} (h : H p = none) : Same H (upd H p o) := fun b x e => by
  rw [upd_ne (ne_of_none e h)]
  exact e
/-- of at most 4400 bits -/
def Sm (x : Int) : Prop := x.natAbs < 2 ^ 4400
/-- of at most 8900 bits -/
def Md (x : Int) : Prop := x.natAbs < 2 ^ 8900
theorem Sm.mul {x y : Int} (a : Sm x) (b : Sm y) : x.natAbs * y.natAbs < 2 ^ 8800 := by
  have := Nat.mul_lt_mul'' a b
  rw [← Nat.pow_add] at this
  exact this
theorem Sm.w {x y : Int} (a : Sm x) (b : Sm y) : CMulW x y := wide_mul a b (by decide) (by decide) (by decide)
theorem Sm.md {x y : Int} (a : Sm x) (b : Sm y) : Md (x * y) := by
  unfold Md
  rw [Int.natAbs_mul]
  exact Nat.lt_trans (Sm.mul a b) (Nat.pow_lt_pow_right (by decide) (by decide))
/-! ### promises -/
def spInit (C : Addr) : Sp := fun vs H Q _ => ∃ (p dx : Addr) (t b : Int), vs = [.ref p, .int t, .int b] ∧ H p = some (.ins C dx []) ∧ b ≠ 0 ∧ Md b ∧
  ∀ H' : Hp, RatAt C H' p (RT.top t b) (RT.bot t b) → (∀ c o, H c = some o → c ≠ p → H' c = some o) → Q .non H'
/-- of two Ratios: a new one -/
def spBin (C : Addr) (g g' : Int → Int → Int → Int → Int) : Sp := fun vs H Q _ => ∃ (p q : Addr) (n d m e : Int), vs = [.ref p, .ref q] ∧ RatAt C H p n d ∧ RatAt C H q m e ∧ d ≠ 0 ∧ e ≠ 0 ∧ Sm n ∧ Sm d ∧ Sm m ∧ Sm e ∧
  ∀ (r : Addr) (H' : Hp), Same H H' → H r = none → RatAt C H' r (RT.top (g n d m e) (g' n d m e)) (RT.bot (g n d m e) (g' n d m e)) → Q (.ref r) H'
def spAdd (C : Addr) : Sp := spBin C (fun n d m e => n * e + m * d) (fun _ d _ e => d * e)
def spSub (C : Addr) : Sp := spBin C (fun n d m e => n * e - m * d) (fun _ d _ e => d * e)
def spMul (C : Addr) : Sp := spBin C (fun n _ m _ => n * m) (fun _ d _ e => d * e)
def spNeg (C : Addr) : Sp := fun vs H Q _ => ∃ (p : Addr) (n d : Int), vs = [.ref p] ∧ RatAt C H p n d ∧ d ≠ 0 ∧ Sm d ∧
  ∀ (r : Addr) (H' : Hp), Same H H' → H r = none → RatAt C H' r (RT.top (-n) d) (RT.bot (-n) d) → Q (.ref r) H'
structure TxtR (K : PySem.W.Frag) (mg : Str → Option Value) (C : Addr) : Prop where
  cl : Cls K C
  nT : NoAttr K C "top"
  nB : NoAttr K C "bottom"
  mgC : mg "Ratio" = some (.ref C)
  gcd : mg "gcd" = some (.builtin "math.gcd")
section
variable {P : Program} {w : World} {K : PySem.W.Frag} {mg : Str → Option Value} {base : Heap}
theorem scI : FnScope ["self", "top", "bottom", "shared", "by"] ["self", "top", "bottom"] (defScope sInit) := ⟨rfl, rfl, rfl, by decide +kernel, rfl, by decide +kernel, by decide +kernel⟩
theorem ok_init {f C : Addr} {fd : FuncData} (F : FunD K "__init__" "Ratio.__init__" (defArgs sInit) (defBody sInit) (defScope sInit) [.int 1] [] f fd) (T : TxtR K mg C) : FnOk P w K mg base CX0 1 f fd ["self", "top", "bottom"] (spInit C) := by
  refine F.ok scI (fun vs H Q E h => ?_) (fun cdv A outer s H vs Q E hr h => ?_)
  · obtain ⟨p, dx, t, b, rfl, _⟩ := h
    rfl
  · obtain ⟨p, dx, t, b, rfl, hp, hb, hz, k⟩ := h
    refine ⟨_, pss_cons (ps_if (pt_cmpR op_eq (pv 2) pe_int (nomark _)) (pss_one ps_never) pss_nil)
      (pss_cons (ps_set (i := 3) scI.nd rfl (Or.inl rfl) (pe_callBfun cr_gcd (by rfl) T.gcd (pa_cons (pv 1) (pa_cons (pv 2) pa_nil))))
      (pss_cons (ps_set (i := 4) scI.nd rfl (Or.inl rfl) (pe_ifExp (pt_cmpR op_gt (pv 2) pe_int (nomark _)) (pv 3) (pe_un un_neg (pv 3))))
      (pss_cons (ps_fld (pv 0) (pe_op op_fdivZ (pv 1) (pv 4)) rfl)
      (pss_one (ps_fld (pv 0) (pe_op op_fdivZ (pv 2) (pv 4)) rfl))))), ?_⟩
    refine ⟨_, rfl, rfl, _, rfl, ?_⟩
    refine ite2 (fun z => ?_) (fun _ => ?_)
    · have z' := of_decide_eq_true z
      injection z' with z'
      exact absurd z' hb
    refine ⟨_, rfl, _, rfl, t, b, rfl, ?_⟩
    refine ⟨_, rfl, _, _, rfl, rfl, _, rfl, ?_⟩
    have by_ne := RT.byv_ne (t := t) hb
    have by_le := RT.byv_le (t := t) hb
    have hdiv : ∀ x y : Int, y = RT.byv t b → CDivZ x y := fun x y e => by
      subst e
      exact divZ by_ne (Nat.lt_of_le_of_lt by_le hz) (by decide) (by decide)
    have key : (if decide (b > 0) = true then RT.gg t b else -RT.gg t b) = RT.byv t b := by
      unfold RT.byv
      by_cases h0 : b > 0
      · rw [if_pos h0, if_pos (decide_eq_true h0)]
      · rw [if_neg h0, if_neg (by rw [decide_eq_false h0]; exact Bool.false_ne_true)]
    have fin : ∀ x : Int, x = RT.byv t b → Q .non (upd (upd H p (.ins C dx (putF "top" (.int (t.fdiv x)) []))) p (.ins C dx (putF "bottom" (.int (b.fdiv x)) (putF "top" (.int (t.fdiv x)) [])))) := fun x e => by
      subst e
      refine k _ ⟨dx, upd_same⟩ fun c o hc ne => ?_
      rw [upd_ne ne, upd_ne ne]
      exact hc
    refine ite2 (fun z => ?_) (fun z => ?_)
    · rw [if_pos z] at key
      refine ⟨_, rfl, _, rfl, _, rfl, _, _, rfl, rfl, (hdiv t _ key), _, rfl, p, C, dx, [], rfl, hp, T.cl, T.nT, (by show 0 < 1000; decide), ?_⟩
      exact ⟨_, rfl, _, rfl, _, _, rfl, rfl, (hdiv b _ key), _, rfl, p, C, dx, _, rfl, upd_same, T.cl, T.nB, (by show 1 < 1000; decide), fin _ key⟩
    · rw [if_neg z] at key
      refine ⟨_, rfl, _, rfl, _, rfl, _, rfl, _, _, rfl, rfl, (hdiv t _ key), _, rfl, p, C, dx, [], rfl, hp, T.cl, T.nT, (by show 0 < 1000; decide), ?_⟩
      exact ⟨_, rfl, _, rfl, _, _, rfl, rfl, (hdiv b _ key), _, rfl, p, C, dx, _, rfl, upd_same, T.cl, T.nB, (by show 1 < 1000; decide), fin _ key⟩
/-- Ratio(t, b), both written: the rule's own question answered -/
theorem make_in {C : Addr} {H : Hp} {t b : Int} {Q : VK} {E : XK} (hb : b ≠ 0) (hz : Md b) (k : ∀ (r : Addr) (H' : Hp), Same H H' → H r = none → RatAt C H' r (RT.top t b) (RT.bot t b) → Q (.ref r) H') :
    ∀ x dx, H x = none → H dx = none → dx ≠ x → spInit C (.ref x :: ([.int t, .int b] ++ [])) (upd (upd H dx (.own x)) x (.ins C dx [])) (fun v H2 => v = .non ∧ Q (.ref x) H2) E := by
  intro x dx nx nd ne
  exact ⟨x, dx, t, b, rfl, upd_same, hb, hz, fun H' hR kp => ⟨rfl, k x H' (Same.made nx nd kp) nx hR⟩⟩
theorem scA : FnScope ["self", "other", "top"] ["self", "other"] (defScope sAdd) := ⟨rfl, rfl, rfl, by decide +kernel, rfl, by decide +kernel, by decide +kernel⟩
theorem scS : FnScope ["self", "other", "top"] ["self", "other"] (defScope sSub) := ⟨rfl, rfl, rfl, by decide +kernel, rfl, by decide +kernel, by decide +kernel⟩
theorem scM : FnScope ["self", "other"] ["self", "other"] (defScope sMul) := ⟨rfl, rfl, rfl, by decide +kernel, rfl, by decide +kernel, by decide +kernel⟩
theorem scN : FnScope ["self"] ["self"] (defScope sNeg) := ⟨rfl, rfl, rfl, by decide +kernel, rfl, by decide +kernel, by decide +kernel⟩
section
variable {f fI C : Addr} {fd fdI : FuncData} {k : Nat} (T : TxtR K mg C) (M : Mk K C fI) (GI : FnOk P w K mg base CX0 1 fI fdI ["self", "top", "bottom"] (spInit C)) (bI : Binds K fdI ["self", "top", "bottom"] [])
include T M GI bI
theorem ok_add (F : Fun K "__add__" "Ratio.__add__" sAdd f fd) : FnOk P w K mg base CX0 3 f fd ["self", "other"] (spAdd C) := by
  refine F.ok scA (fun vs H Q E h => ?_) (fun cdv A outer s H vs Q E hr h => ?_)
  · obtain ⟨p, q, n, d, m, e, rfl, _⟩ := h
    rfl
  · obtain ⟨p, q, n, d, m, e, rfl, ⟨dx, hp⟩, ⟨dy, hq⟩, hd, he, sn, sd, sm, se, kk⟩ := h
    refine ⟨_, pss_cons (ps_set (i := 2) scA.nd rfl (Or.inl rfl) (pe_op op_add (pe_op op_mulW (pe_fld (pv 0) rfl) (pe_fld (pv 1) rfl)) (pe_op op_mulW (pe_fld (pv 1) rfl) (pe_fld (pv 0) rfl))))
      (pss_one (ps_ret (pe_make M GI hr rfl T.mgC bI .nil pass0 (pa_cons (pv 2) (pa_cons (pe_op op_mulW (pe_fld (pv 0) rfl) (pe_fld (pv 1) rfl)) pa_nil))))), ?_⟩
    refine ⟨_, rfl, p, C, dx, _, _, rfl, hp, T.cl, T.nT, rf_top _ _, _, rfl, q, C, dy, _, _, rfl, hq, T.cl, T.nB, rf_bot _ _, _, _, rfl, rfl, Sm.w sn se,
      _, rfl, q, C, dy, _, _, rfl, hq, T.cl, T.nT, rf_top _ _, _, rfl, p, C, dx, _, _, rfl, hp, T.cl, T.nB, rf_bot _ _, _, _, rfl, rfl, Sm.w sm sd, _, _, rfl, rfl, ?_⟩
    refine ⟨_, rfl, _, rfl, p, C, dx, _, _, rfl, hp, T.cl, T.nB, rf_bot _ _, _, rfl, q, C, dy, _, _, rfl, hq, T.cl, T.nB, rf_bot _ _, _, _, rfl, rfl, Sm.w sd se, ?_⟩
    exact make_in (Int.mul_ne_zero hd he) (Sm.md sd se) kk
theorem ok_sub (F : Fun K "__sub__" "Ratio.__sub__" sSub f fd) : FnOk P w K mg base CX0 3 f fd ["self", "other"] (spSub C) := by
  refine F.ok scS (fun vs H Q E h => ?_) (fun cdv A outer s H vs Q E hr h => ?_)
  · obtain ⟨p, q, n, d, m, e, rfl, _⟩ := h
    rfl
  · obtain ⟨p, q, n, d, m, e, rfl, ⟨dx, hp⟩, ⟨dy, hq⟩, hd, he, sn, sd, sm, se, kk⟩ := h
    refine ⟨_, pss_cons (ps_set (i := 2) scS.nd rfl (Or.inl rfl) (pe_op op_sub (pe_op op_mulW (pe_fld (pv 0) rfl) (pe_fld (pv 1) rfl)) (pe_op op_mulW (pe_fld (pv 1) rfl) (pe_fld (pv 0) rfl))))
      (pss_one (ps_ret (pe_make M GI hr rfl T.mgC bI .nil pass0 (pa_cons (pv 2) (pa_cons (pe_op op_mulW (pe_fld (pv 0) rfl) (pe_fld (pv 1) rfl)) pa_nil))))), ?_⟩
    refine ⟨_, rfl, p, C, dx, _, _, rfl, hp, T.cl, T.nT, rf_top _ _, _, rfl, q, C, dy, _, _, rfl, hq, T.cl, T.nB, rf_bot _ _, _, _, rfl, rfl, Sm.w sn se,
      _, rfl, q, C, dy, _, _, rfl, hq, T.cl, T.nT, rf_top _ _, _, rfl, p, C, dx, _, _, rfl, hp, T.cl, T.nB, rf_bot _ _, _, _, rfl, rfl, Sm.w sm sd, _, _, rfl, rfl, ?_⟩
    refine ⟨_, rfl, _, rfl, p, C, dx, _, _, rfl, hp, T.cl, T.nB, rf_bot _ _, _, rfl, q, C, dy, _, _, rfl, hq, T.cl, T.nB, rf_bot _ _, _, _, rfl, rfl, Sm.w sd se, ?_⟩
    exact make_in (Int.mul_ne_zero hd he) (Sm.md sd se) kk
theorem ok_mul (F : Fun K "__mul__" "Ratio.__mul__" sMul f fd) : FnOk P w K mg base CX0 3 f fd ["self", "other"] (spMul C) := by
  refine F.ok scM (fun vs H Q E h => ?_) (fun cdv A outer s H vs Q E hr h => ?_)
  · obtain ⟨p, q, n, d, m, e, rfl, _⟩ := h
    rfl
  · obtain ⟨p, q, n, d, m, e, rfl, ⟨dx, hp⟩, ⟨dy, hq⟩, hd, he, sn, sd, sm, se, kk⟩ := h
    refine ⟨_, pss_one (ps_ret (pe_make M GI hr rfl T.mgC bI .nil pass0 (pa_cons (pe_op op_mulW (pe_fld (pv 0) rfl) (pe_fld (pv 1) rfl)) (pa_cons (pe_op op_mulW (pe_fld (pv 0) rfl) (pe_fld (pv 1) rfl)) pa_nil)))), ?_⟩
    refine ⟨_, rfl, p, C, dx, _, _, rfl, hp, T.cl, T.nT, rf_top _ _, _, rfl, q, C, dy, _, _, rfl, hq, T.cl, T.nT, rf_top _ _, _, _, rfl, rfl, Sm.w sn sm, ?_⟩
    refine ⟨_, rfl, p, C, dx, _, _, rfl, hp, T.cl, T.nB, rf_bot _ _, _, rfl, q, C, dy, _, _, rfl, hq, T.cl, T.nB, rf_bot _ _, _, _, rfl, rfl, Sm.w sd se, ?_⟩
    exact make_in (Int.mul_ne_zero hd he) (Sm.md sd se) kk
theorem ok_neg (F : Fun K "__neg__" "Ratio.__neg__" sNeg f fd) : FnOk P w K mg base CX0 3 f fd ["self"] (spNeg C) := by
  refine F.ok scN (fun vs H Q E h => ?_) (fun cdv A outer s H vs Q E hr h => ?_)
  · obtain ⟨p, n, d, rfl, _⟩ := h
    rfl
  · obtain ⟨p, n, d, rfl, ⟨dx, hp⟩, hd, sd, kk⟩ := h
    refine ⟨_, pss_one (ps_ret (pe_make M GI hr rfl T.mgC bI .nil pass0 (pa_cons (pe_un un_neg (pe_fld (pv 0) rfl)) (pa_cons (pe_fld (pv 0) rfl) pa_nil)))), ?_⟩
    refine ⟨_, rfl, p, C, dx, _, _, rfl, hp, T.cl, T.nT, rf_top _ _, _, rfl, ?_⟩
    refine ⟨_, rfl, p, C, dx, _, _, rfl, hp, T.cl, T.nB, rf_bot _ _, ?_⟩
    exact make_in hd (Nat.lt_trans sd (Nat.pow_lt_pow_right (by decide) (by decide))) kk
end
end
end RX

set_option Elab.async false
set_option maxRecDepth 100000
namespace RX
open PySem L2
/-! ### the draws -/
abbrev sFeed : Stmt := topS 12
abbrev sDraw : Stmt := topS 13
abbrev sGreat : Stmt := topS 14
/-- the feed stands at a: its cells, the next place, what is left of a great cell, the seed -/
structure FeedIs (H : Hp) (a cl : Addr) (cs : List Int) (i p s : Int) : Prop where
  hA : H a = some (.lst [.ref cl, .int i, .int p, .int s])
  hC : H cl = some (.lst (cs.map V.int))
  ne : cl ≠ a
  i0 : 0 ≤ i
  p0 : 0 ≤ p
  s0 : 0 ≤ s
  s1 : s < 2147483648
  len : cs.length ≤ 63
  nn : ∀ c ∈ cs, 0 ≤ c
def FeedAt (H : Hp) (a cl : Addr) : Prop := ∃ cs i p s, FeedIs H a cl cs i p s
/-- all but what stands at a is as it was -/
def But (a : Addr) (H H' : Hp) : Prop := ∀ b o, H b = some o → b ≠ a → H' b = some o
theorem But.refl (a : Addr) (H : Hp) : But a H H := fun _ _ h _ => h
theorem But.trans {a : Addr} {H H1 H2 : Hp} (x : But a H H1) (y : But a H1 H2) : But a H H2 := fun b o h n => y b o (x b o h n) n
theorem Same.but {a : Addr} {H H1 : Hp} (x : Same H H1) : But a H H1 := fun b o h _ => x b o h
theorem But.upd (a : Addr) (H : Hp) (o : HO) : But a H (L2.upd H a o) := fun b o' h n => by rw [upd_ne n]; exact h
theorem FeedIs.same {H H' : Hp} {a cl : Addr} {cs : List Int} {i p s : Int} (h : FeedIs H a cl cs i p s) (x : Same H H') : FeedIs H' a cl cs i p s :=
  ⟨x _ _ h.hA, x _ _ h.hC, h.ne, h.i0, h.p0, h.s0, h.s1, h.len, h.nn⟩
theorem FeedAt.same {H H' : Hp} {a cl : Addr} (h : FeedAt H a cl) (x : Same H H') : FeedAt H' a cl := let ⟨cs, i, p, s, f⟩ := h; ⟨cs, i, p, s, f.same x⟩
/-- the feed's list written anew -/
theorem FeedIs.put {H : Hp} {a cl : Addr} {cs : List Int} {i p s i' p' s' : Int} (h : FeedIs H a cl cs i p s) (i0 : 0 ≤ i') (p0 : 0 ≤ p') (s0 : 0 ≤ s') (s1 : s' < 2147483648) :
    FeedIs (upd H a (.lst [.ref cl, .int i', .int p', .int s'])) a cl cs i' p' s' :=
  ⟨upd_same, by rw [upd_ne h.ne]; exact h.hC, h.ne, i0, p0, s0, s1, h.len, h.nn⟩
def spFeed (K : PySem.W.Frag) : Sp := fun vs H Q _ => ∃ (a : Addr) (ns : List Int), vs = [.ref a] ∧ SqL K H a (ns.map V.int) ∧ ns.length ≤ 63 ∧ ∀ (r cl : Addr) (H' : Hp), Same H H' → H r = none → H cl = none → FeedAt H' r cl → Q (.ref r) H'
def spDraw : Sp := fun vs H Q _ => ∃ (a cl : Addr) (m : Int), vs = [.ref a, .int m] ∧ FeedAt H a cl ∧ 0 < m ∧ m < 1073741824 ∧ ∀ (r : Int) (H' : Hp), 0 ≤ r → r < m → FeedAt H' a cl → But a H H' → Q (.int r) H'
def spGreat : Sp := fun vs H Q _ => ∃ (a cl : Addr) (m : Int), vs = [.ref a, .int m] ∧ FeedAt H a cl ∧ 0 ≤ m ∧ m ≤ 100 ∧ ∀ (r : Int) (H' : Hp), 0 ≤ r → r < 100000 ^ m.toNat → FeedAt H' a cl → But a H H' → Q (.int r) H'
structure TxtL (mg : Str → Option Value) : Prop where
  abs : mg "abs" = none
  len : mg "len" = none
  int : mg "int" = none
  max : mg "max" = none
  range : mg "range" = none
  isi : mg "isinstance" = none
  bool : mg "bool" = none
section
variable {P : Program} {w : World} {K : PySem.W.Frag} {mg : Str → Option Value} {base : Heap}
theorem scFe : FnScope ["script", "cell"] ["script"] (defScope sFeed) := ⟨rfl, rfl, rfl, by decide +kernel, rfl, by decide +kernel, by decide +kernel⟩
theorem cut63 (xs : List V) (h : xs.length ≤ 63) : cutV xs none (some 63) = xs := by
  unfold cutV
  rw [show HT.sIx xs.length xs.length (some 63) = min 63 xs.length from HT.sIx_nat xs.length xs.length 63, HT.sIx_none, Nat.min_eq_right h, List.drop_zero, Nat.sub_zero]
  exact List.take_length
theorem ok_feed {f : Addr} {fd : FuncData} (F : Fun K "_law_feed" "_law_feed" sFeed f fd) (T : TxtL mg) : FnOk P w K mg base CX0 1 f fd ["script"] (spFeed K) := by
  refine F.ok scFe (fun vs H Q E h => ?_) (fun cdv A outer s H vs Q E hr h => ?_)
  · obtain ⟨a, ns, rfl, _⟩ := h
    rfl
  · obtain ⟨a, ns, rfl, hS, hl, k⟩ := h
    refine ⟨_, pss_one (ps_ret (pe_lst (pa_cons (pe_lc (own := [("cell", 1)]) (g := gName 1) (tt := tYes) rfl scFe.nd (pi_list (pe_slice sl_list (pv 0) po_none (po_some pe_int))) (blkOk_by (N := ["script", "cell"]) (sc := defScope sFeed) (by decide +kernel))
        (fun _ _ _ _ _ => pg_name (i := 1) scFe.nd rfl (Or.inl rfl)) (fun _ _ _ _ _ => pts_nil) (fun _ _ _ _ _ => pe_callB call_abs (by rfl) T.abs (by decide +kernel) (pa_cons (pv 1) pa_nil)))
      (pa_cons pe_int (pa_cons pe_int (pa_cons (pe_op op_add pe_int (pe_callB call_len_seq (by rfl) T.len PySem.boot_len (pa_cons (pv 0) pa_nil))) pa_nil)))))), ?_⟩
    refine ⟨.ref a, rfl, 63, rfl, a, ns.map V.int, rfl, hS, fun c nc => ?_⟩
    rw [cut63 _ (by rw [List.length_map]; exact hl)]
    have s1 : Same H (upd H c (.lst (ns.map V.int))) := Same.upd nc
    refine ⟨c, rfl, ⟨_, SqL.of upd_same⟩, fun D nD => ?_⟩
    have ncD : c ≠ D := ne_of_none upd_same nD
    have nD0 : H D = none := s1.free nD
    refine lc_list (K := K) (a := c) (xs := ns.map V.int) (fun i H2 => Same H H2 ∧ H2 c = some (.lst (ns.map V.int)) ∧ H2 D = some (.lst (((ns.take i).map fun z => if z < 0 then -z else z).map V.int))) ⟨s1.trans (Same.upd nD), by rw [upd_ne ncD]; exact upd_same, upd_same⟩ (fun i H2 _ h => SqL.of h.2.1) ?_ ?_
    · rintro i x H2 hi ⟨s2, hq, hD⟩
      obtain ⟨z, hz, rfl⟩ : ∃ z, ns[i]? = some z ∧ V.int z = x := by
        rw [List.getElem?_map] at hi
        cases e : ns[i]? with
        | none => rw [e] at hi; cases hi
        | some z => rw [e] at hi; exact ⟨z, rfl, Option.some.inj hi⟩
      have hi63 : i < ns.length := (List.getElem?_eq_some_iff.mp hz).1
      refine ⟨rfl, ?_⟩
      refine ⟨_, rfl, z, rfl, _, hD, ?_, ?_⟩
      · rw [List.length_map, List.length_map, List.length_take]
        exact Nat.lt_of_le_of_lt (Nat.min_le_left _ _) (small1000 (by omega))
      · refine ⟨fun b o e => ?_, by rw [upd_ne ncD]; exact hq, ?_⟩
        · rw [upd_ne (ne_of_none e nD0)]
          exact s2 _ _ e
        · rw [upd_same, List.take_add_one, hz, List.map_append, List.map_append]
          rfl
    · rintro H2 ⟨s2, hq, hD⟩
      rw [List.length_map, List.take_length] at hD
      refine ⟨_, rfl, a, _, rfl, .inl (s2.seq hS), _, _, rfl, rfl, (by show 4 ≤ sizeLine; decide), fun r nr => ?_⟩
      have nDr : D ≠ r := ne_of_none hD nr
      refine k r D _ (s2.trans (Same.upd nr)) (s2.free nr) nD0 ⟨ns.map fun z => if z < 0 then -z else z, 0, 0, _, upd_same, by rw [upd_ne nDr]; exact hD, nDr, by omega, by omega, ?_, ?_, ?_, ?_⟩
      · rw [List.length_map]; omega
      · rw [List.length_map]; omega
      · rw [List.length_map]; exact hl
      · intro c hc
        obtain ⟨z, _, rfl⟩ := List.mem_map.mp hc
        show (0 : Int) ≤ if z < 0 then -z else z
        split <;> omega
theorem scDr : FnScope ["feed", "limit", "cells", "cell", "found"] ["feed", "limit"] (defScope sDraw) := ⟨rfl, rfl, rfl, by decide +kernel, rfl, by decide +kernel, by decide +kernel⟩
theorem ok_draw {f : Addr} {fd : FuncData} (F : Fun K "_law_draw" "_law_draw" sDraw f fd) (T : TxtL mg) : FnOk P w K mg base CX0 1 f fd ["feed", "limit"] spDraw := by
  refine F.ok scDr (fun vs H Q E h => ?_) (fun cdv A outer s H vs Q E hr h => ?_)
  · obtain ⟨a, cl, m, rfl, _⟩ := h
    rfl
  · obtain ⟨a, cl, m, rfl, ⟨cs, i, p, s, f0⟩, hm, hm2, k⟩ := h
    refine ⟨_, pss_cons (ps_set (i := 2) scDr.nd rfl (.inl rfl) (pe_ix ix_list (pv 0) pe_int (fun _ _ => rfl)))
      (C8.pss_cut (ps_if (PW.pt (pw_and (pt_cmpR op_eq (pe_ix ix_list (pv 0) pe_int (fun _ _ => rfl)) pe_int (nomark _)) (pw_and1 (pt_cmpR op_lt (pe_ix ix_list (pv 0) pe_int (fun _ _ => rfl)) (pe_callB call_len_seq (by rfl) T.len PySem.boot_len (pa_cons (pv 2) pa_nil)) (nomark _)))))
        (pss_cons (ps_set (i := 3) scDr.nd rfl (.inl rfl) (pe_ix ix_list (pv 2) (pe_ix ix_list (pv 0) pe_int (fun _ _ => rfl)) (fun _ _ => rfl)))
        (pss_cons (ps_asg (pe_op op_add (pe_ix ix_list (pv 0) pe_int (fun _ _ => rfl)) pe_int) (pg_sub (pv 0) pe_int set_list))
        (pss_one (ps_if (pt_cmpR op_ge (pv 3) (pe_op op_pow pe_int pe_int) (nomark _))
          (pss_one (ps_asg (pv 3) (pg_sub (pv 0) pe_int set_list)))
          (pss_one (ps_asg (pe_op op_mod (pe_callTy call_int1 (by rfl) T.int (by decide +kernel) (pa_cons (pe_op op_add (pe_op op_add (pe_op op_mul (pe_ix ix_list (pv 0) pe_int (fun _ _ => rfl)) pe_int) (pe_op op_mul (pv 3) pe_int)) pe_int) pa_nil)) pe_int) (pg_sub (pv 0) pe_int set_list)))))))
        pss_nil)
      (C8.pss_cut (ps_if (pt_cmpR op_gt (pe_ix ix_list (pv 0) pe_int (fun _ _ => rfl)) pe_int (nomark _))
        (pss_cons (ps_set (i := 4) scDr.nd rfl (.inl rfl) (pe_op op_mod (pe_callTy call_int1 (by rfl) T.int (by decide +kernel) (pa_cons (pe_ix ix_list (pv 0) pe_int (fun _ _ => rfl)) pa_nil)) (pv 1)))
        (pss_cons (ps_asg (pe_op op_fdiv (pe_ix ix_list (pv 0) pe_int (fun _ _ => rfl)) (pv 1)) (pg_sub (pv 0) pe_int set_list))
        (pss_one (ps_ret (pv 4)))))
        pss_nil)
      (pss_cons (ps_asg (pe_op op_mod (pe_callTy call_int1 (by rfl) T.int (by decide +kernel) (pa_cons (pe_op op_add (pe_op op_mul (pe_ix ix_list (pv 0) pe_int (fun _ _ => rfl)) pe_int) pe_int) pa_nil)) pe_int) (pg_sub (pv 0) pe_int set_list))
      (pss_one (ps_ret (pe_op op_mod (pe_callTy call_int1 (by rfl) T.int (by decide +kernel) (pa_cons (pe_op op_add (pe_op op_fdiv (pe_op op_mul (pe_ix ix_list (pv 0) pe_int (fun _ _ => rfl)) (pe_ix ix_list (pv 0) pe_int (fun _ _ => rfl))) pe_int) (pe_op op_fdiv (pe_ix ix_list (pv 0) pe_int (fun _ _ => rfl)) pe_int)) pa_nil)) (pv 1))))))), ?_⟩
    -- cells = feed[0]
    refine ⟨_, rfl, a, _, 0, _, rfl, rfl, SqL.of f0.hA, rfl, ?_⟩
    -- behind the first if: the feed again
    refine ⟨fun σ' H' => ∃ x2 x3 x4, σ' = [some (.ref a), some (.int m), x2, x3, x4] ∧ FeedAt H' a cl ∧ But a H H', ?_, ?_⟩
    · refine ⟨_, rfl, a, _, 2, _, rfl, rfl, SqL.of f0.hA, rfl, rfl, _, rfl, ?_⟩
      refine ite2 (fun _ => ?_) (fun _ => ?_)
      · refine ⟨_, rfl, a, _, 1, _, rfl, rfl, SqL.of f0.hA, rfl, _, rfl, cl, _, rfl, .inl (SqL.of f0.hC), _, _, rfl, rfl, _, rfl, ?_⟩
        refine ite2 (fun z => ?_) (fun _ => ?_)
        · have z := of_decide_eq_true z
          rw [List.length_map] at z
          have hi : (i.toNat : Int) = i := Int.toNat_of_nonneg f0.i0
          have hlt : i.toNat < cs.length := by omega
          have hc : (cs.map V.int)[i.toNat]? = some (V.int cs[i.toNat]) := by
            rw [List.getElem?_map, List.getElem?_eq_getElem hlt]
            rfl
          have c0 : 0 ≤ cs[i.toNat] := f0.nn _ (List.getElem_mem hlt)
          generalize hcv : cs[i.toNat] = cv at hc c0
          have f1 := f0.put (i' := i + 1) (by have := f0.i0; omega) f0.p0 f0.s0 f0.s1
          refine ⟨_, rfl, _, rfl, a, _, 1, _, rfl, rfl, SqL.of f0.hA, rfl, cl, _, i, _, rfl, rfl, SqL.of f0.hC, at_of hi.symm hc, ?_⟩
          refine ⟨_, rfl, a, _, 1, _, rfl, rfl, SqL.of f0.hA, rfl, _, _, rfl, rfl, _, rfl, a, _, _, 1, rfl, rfl, f0.hA, rfl, ?_⟩
          refine ⟨_, rfl, _, _, rfl, rfl, (by show (0 : Int) ≤ 18 ∧ (18 : Int) ≤ 1000000 ∧ (10 : Int).natAbs < 2 ^ 64; decide), _, _, rfl, rfl, _, rfl, ?_⟩
          refine ite2 (fun _ => ?_) (fun _ => ?_)
          · refine ⟨_, rfl, _, rfl, a, _, _, 2, rfl, rfl, upd_same, rfl, ?_⟩
            exact ⟨_, _, _, rfl, ⟨cs, _, _, _, f1.put (i' := i + 1) (p' := cv) (s' := s) (by have := f0.i0; omega) c0 f0.s0 f0.s1⟩, (But.upd a H _).trans (But.upd a _ _)⟩
          · refine ⟨_, rfl, a, _, 3, _, rfl, rfl, SqL.of upd_same, rfl, _, _, rfl, rfl, .inr (by decide), _, rfl, _, _, rfl, rfl, .inr (by decide), _, _, rfl, rfl, _, _, rfl, rfl, .inl ⟨_, rfl, _, _, rfl, rfl, (by show (0 : Int) < 2147483647; decide), _, rfl, a, _, _, 3, rfl, rfl, upd_same, rfl, ?_⟩⟩
            refine ⟨_, _, _, rfl, ⟨cs, _, _, _, f1.put (i' := i + 1) (p' := p) (by have := f0.i0; omega) f0.p0 (Int.emod_nonneg _ (by decide)) (Int.lt_trans (Int.emod_lt_of_pos _ (by decide)) (by decide))⟩, (But.upd a H _).trans (But.upd a _ _)⟩
        · exact ⟨_, _, _, rfl, ⟨cs, i, p, s, f0⟩, But.refl a H⟩
      · exact ⟨_, _, _, rfl, ⟨cs, i, p, s, f0⟩, But.refl a H⟩
    · rintro σ' H1 ⟨x2, x3, x4, rfl, ⟨cs, i, p, s, f1⟩, b1⟩
      refine ⟨fun σ' H' => ∃ x2 x3 x4, σ' = [some (.ref a), some (.int m), x2, x3, x4] ∧ FeedAt H' a cl ∧ But a H H', ?_, ?_⟩
      · refine ⟨_, rfl, a, _, 2, _, rfl, rfl, SqL.of f1.hA, rfl, _, _, rfl, rfl, _, rfl, ?_⟩
        refine ite2 (fun z => ?_) (fun _ => ?_)
        · refine ⟨_, rfl, a, _, 2, _, rfl, rfl, SqL.of f1.hA, rfl, .inl ⟨_, rfl, _, rfl, _, _, rfl, rfl, hm, ?_⟩⟩
          refine ⟨_, rfl, a, _, 2, _, rfl, rfl, SqL.of f1.hA, rfl, _, rfl, _, _, rfl, rfl, ⟨hm, hm2⟩, _, rfl, a, _, _, 2, rfl, rfl, f1.hA, rfl, ?_⟩
          refine ⟨_, rfl, ?_⟩
          exact k _ _ (Int.emod_nonneg _ (by omega)) (Int.emod_lt_of_pos _ hm) ⟨cs, _, _, _, f1.put (i' := i) (s' := s) f1.i0 (Int.ediv_nonneg f1.p0 (by omega)) f1.s0 f1.s1⟩ (b1.trans (But.upd a _ _))
        · exact ⟨_, _, _, rfl, ⟨cs, i, p, s, f1⟩, b1⟩
      · rintro σ' H2 ⟨x2, x3, x4, rfl, ⟨cs, i, p, s, f2⟩, b2⟩
        refine ⟨_, rfl, a, _, 3, _, rfl, rfl, SqL.of f2.hA, rfl, _, _, rfl, rfl, .inr (by decide), _, _, rfl, rfl, .inl ⟨_, rfl, _, _, rfl, rfl, (by show (0 : Int) < 2147483629; decide), _, rfl, a, _, _, 3, rfl, rfl, f2.hA, rfl, ?_⟩⟩
        have e0 := Int.emod_nonneg (s * 16807 + 12345) (show (2147483629 : Int) ≠ 0 by decide)
        have e1 := Int.emod_lt_of_pos (s * 16807 + 12345) (show (0 : Int) < 2147483629 by decide)
        have f3 := f2.put (i' := i) (p' := p) (s' := (s * 16807 + 12345) % 2147483629) f2.i0 f2.p0 e0 (by omega)
        refine ⟨_, rfl, a, _, 3, _, rfl, rfl, SqL.of upd_same, rfl, _, rfl, a, _, 3, _, rfl, rfl, SqL.of upd_same, rfl, _, _, rfl, rfl, .inl ⟨by omega, by omega⟩, _, _, rfl, rfl, ⟨by decide, by decide⟩,
          _, rfl, a, _, 3, _, rfl, rfl, SqL.of upd_same, rfl, _, _, rfl, rfl, ⟨by decide, by decide⟩, _, _, rfl, rfl, .inl ⟨_, rfl, _, rfl, _, _, rfl, rfl, hm, ?_⟩⟩
        exact k _ _ (Int.emod_nonneg _ (by omega)) (Int.emod_lt_of_pos _ hm) ⟨cs, _, _, _, f3⟩ (b2.trans (But.upd a _ _))
end
end RX

set_option Elab.async false
set_option maxRecDepth 100000
namespace RX
open PySem L2
abbrev sPair : Stmt := topS 15
/-- a pair of ints stands at p -/
def PairAt (H : Hp) (p : Addr) (n d : Int) : Prop := H p = some (.tup [.int n, .int d])
theorem PairAt.same {H H' : Hp} {p : Addr} {n d : Int} (h : PairAt H p n d) (s : Same H H') : PairAt H' p n d := s _ _ h
theorem PairAt.t {K : PySem.W.Frag} {H : Hp} {p : Addr} {n d : Int} (h : PairAt H p n d) : SqT K H p [.int n, .int d] := SqT.of h
def spPair : Sp := fun vs H Q _ => ∃ (t b : Int), vs = [.int t, .int b] ∧ b ≠ 0 ∧ Md b ∧ ∀ (r : Addr) (H' : Hp), Same H H' → H r = none → PairAt H' r (RT.top t b) (RT.bot t b) → Q (.ref r) H'
theorem But.free {a cl : Addr} {H H1 : Hp} {r : Addr} (x : But a H H1) (h : H1 r = none) (f : FeedAt H1 a cl) : H r = none := by
  cases q : H r with
  | none => rfl
  | some o =>
    by_cases e : r = a
    · subst e
      obtain ⟨cs, i, p, s, f⟩ := f
      rw [f.hA] at h
      cases h
    · rw [x r o q e] at h
      cases h
/-- a def of the law that is called by its name -/
structure CalN (P : Program) (w : World) (K : PySem.W.Frag) (mg : Str → Option Value) (base : Heap) (x : Str) (k : Nat) (ps : List Str) (sp : Sp) (f : Addr) (fd : FuncData) : Prop where
  G : FnOk P w K mg base CX0 k f fd ps sp
  m : mg x = some (.ref f)
  kp : PySem.W.keepIn K (.ref f) = true
  b : Binds K fd ps []
/-- of at most 500 bits -/
def Ti (x : Int) : Prop := x.natAbs < 2 ^ 500
theorem pw {a b : Nat} (h : a ≤ b) {x : Nat} (hx : x < 2 ^ a) : x < 2 ^ b := Nat.lt_of_lt_of_le hx (Nat.pow_le_pow_right (by decide) h)
theorem mulB {x y : Int} {a b : Nat} (ha : x.natAbs < 2 ^ a) (hb : y.natAbs < 2 ^ b) : (x * y).natAbs < 2 ^ (a + b) := wide_lt ha hb
theorem addB {x y : Int} {a : Nat} (ha : x.natAbs < 2 ^ a) (hb : y.natAbs < 2 ^ a) : (x + y).natAbs < 2 ^ (a + 1) := by
  have := Int.natAbs_add_le x y
  rw [Nat.pow_succ]
  omega
theorem topB {t b : Int} {a : Nat} (h : b ≠ 0) (ha : t.natAbs < 2 ^ a) : (RT.top t b).natAbs < 2 ^ a := Nat.lt_of_le_of_lt (RT.top_le h) ha
theorem botB {t b : Int} {a : Nat} (h : b ≠ 0) (ha : b.natAbs < 2 ^ a) : (RT.bot t b).natAbs < 2 ^ a := Nat.lt_of_le_of_lt (RT.bot_le h) ha
theorem botN {t b : Int} (h : b ≠ 0) : RT.bot t b ≠ 0 := by have := RT.bot_pos (t := t) h; omega
section
variable {P : Program} {w : World} {K : PySem.W.Frag} {mg : Str → Option Value} {base : Heap}
theorem scG : FnScope ["feed", "parts", "found", "k"] ["feed", "parts"] (defScope sGreat) := ⟨rfl, rfl, rfl, by decide +kernel, rfl, by decide +kernel, by decide +kernel⟩
theorem ok_great {f fD : Addr} {fd fdD : FuncData} (F : Fun K "_law_great" "_law_great" sGreat f fd) (T : TxtL mg) (GD : FnOk P w K mg base CX0 1 fD fdD ["feed", "limit"] spDraw) (mD : mg "_law_draw" = some (.ref fD)) (kD : PySem.W.keepIn K (.ref fD) = true) (bD : Binds K fdD ["feed", "limit"] []) :
    FnOk P w K mg base CX0 2 f fd ["feed", "parts"] spGreat := by
  refine F.ok scG (fun vs H Q E h => ?_) (fun cdv A outer s H vs Q E hr h => ?_)
  · obtain ⟨a, cl, m, rfl, _⟩ := h
    rfl
  · obtain ⟨a, cl, m, rfl, hF, h0, h1, k⟩ := h
    refine ⟨_, pss_cons (ps_set (i := 2) scG.nd rfl (.inl rfl) pe_int)
      (pss_cons (ps_for PassesOwn.never rfl (pi_range1 rfl T.range (pa_cons (pv 1) pa_nil)) (pg_name (i := 3) scG.nd rfl (.inl rfl))
        (pss_one (ps_set (i := 2) scG.nd rfl (.inl rfl) (pe_op op_add (pe_op op_mul (pv 2) pe_int) (pe_call GD hr rfl mD kD bD .nil pass0 (pa_cons (pv 0) (pa_cons pe_int pa_nil)))))))
      (pss_one (ps_ret (pv 2)))), ?_⟩
    refine ⟨_, rfl, m, rfl, by omega, by omega, for_range (n := m.toNat) (fun i σ H' => ∃ (x : Int) (y : Option V), σ = [some (.ref a), some (.int m), some (.int x), y] ∧ 0 ≤ x ∧ x < 100000 ^ i ∧ FeedAt H' a cl ∧ But a H H')
      ⟨0, none, rfl, by omega, by decide, hF, But.refl a H⟩ ?_ ?_⟩
    · rintro i σ H' hi ⟨x, y, rfl, x0, x1, f1, b1⟩
      refine ⟨_, rfl, _, _, rfl, rfl, .inr (by decide), _, rfl, a, cl, _, rfl, f1, by decide, by decide, fun r H2 r0 r1 f2 b2 => ?_⟩
      refine ⟨_, _, rfl, rfl, _, _, rfl, by omega, ?_, f2, b1.trans b2⟩
      rw [Int.pow_succ]
      omega
    · rintro σ H' ⟨x, y, rfl, x0, x1, f1, b1⟩
      exact ⟨_, rfl, k x H' x0 x1 f1 b1⟩
theorem scP : FnScope ["above", "below", "one", "two"] ["above", "below"] (defScope sPair) := ⟨rfl, rfl, rfl, by decide +kernel, rfl, by decide +kernel, by decide +kernel⟩
theorem ok_pair {f : Addr} {fd : FuncData} (F : Fun K "_law_pair" "_law_pair" sPair f fd) (T : TxtL mg) : FnOk P w K mg base CX0 1 f fd ["above", "below"] spPair := by
  refine F.ok scP (fun vs H Q E h => ?_) (fun cdv A outer s H vs Q E hr h => ?_)
  · obtain ⟨t, b, rfl, _⟩ := h
    rfl
  · obtain ⟨t, b, rfl, hb, hz, k⟩ := h
    refine ⟨_, pss_cons (ps_set (i := 2) scP.nd rfl (.inl rfl) (pe_callB call_abs (by rfl) T.abs (by decide +kernel) (pa_cons (pv 0) pa_nil)))
      (pss_cons (ps_set (i := 3) scP.nd rfl (.inl rfl) (pe_callB call_abs (by rfl) T.abs (by decide +kernel) (pa_cons (pv 1) pa_nil)))
      (pss_cons (ps_while PassesOwn.never (pt_cmpR op_gt (pv 3) pe_int (nomark _))
        (pss_one (ps_par (i := 2) (j := 3) (by rfl) scP.nd rfl rfl (by decide) rfl rfl (pa_cons (pv 3) (pa_cons (pe_op op_mod (pe_callTy call_int1 (by rfl) T.int (by decide +kernel) (pa_cons (pv 2) pa_nil)) (pv 3)) pa_nil)) (by rfl))))
      (C8.pss_cut (ps_if (pt_cmpR op_lt (pv 1) pe_int (nomark _)) (pss_one (ps_set (i := 2) scP.nd rfl (.inl rfl) (pe_op op_sub pe_int (pv 2)))) pss_nil)
      (pss_one (ps_ret (pe_tup (pa_cons (pe_op op_fdivZ (pv 0) (pv 2)) (pa_cons (pe_op op_fdivZ (pv 1) (pv 2)) pa_nil)))))))), ?_⟩
    refine ⟨_, rfl, t, rfl, _, rfl, b, rfl, ?_⟩
    have ab : ∀ x : Int, 0 ≤ (if x < 0 then -x else x) ∧ (if x < 0 then -x else x).natAbs = x.natAbs := fun x => by split <;> omega
    refine while_by (fun σ H' => ∃ x y : Int, σ = [some (.int t), some (.int b), some (.int x), some (.int y)] ∧ H' = H ∧ 0 ≤ x ∧ 0 ≤ y ∧ Nat.gcd x.natAbs y.natAbs = Nat.gcd t.natAbs b.natAbs)
      (fun σ _ => match σ with | [_, _, _, some (.int y)] => y.toNat | _ => 0)
      ⟨_, _, rfl, rfl, (ab t).1, (ab b).1, by rw [(ab t).2, (ab b).2]⟩ ?_ (fun σ H' R R' h q => by
        obtain ⟨v, hv, i, j, e1, e2, kk, e3, q⟩ := q
        exact ⟨v, hv, i, j, e1, e2, kk, e3, h _ _ q⟩)
    rintro σ H' ⟨x, y, rfl, rfl, x0, y0, g⟩
    refine ⟨_, rfl, _, _, rfl, rfl, _, rfl, ?_⟩
    refine ite2 (fun z => ?_) (fun z => ?_)
    · have z := of_decide_eq_true z
      refine ⟨_, rfl, _, rfl, .inl ⟨_, rfl, _, rfl, _, _, rfl, rfl, z, ?_⟩⟩
      have m0 := Int.emod_nonneg x (show y ≠ 0 by omega)
      have m1 := Int.emod_lt_of_pos x z
      refine ⟨_, _, rfl, ⟨_, _, rfl, rfl, y0, m0, ?_⟩, ?_⟩
      · rw [Nat.gcd_comm, ← g]
        have : (x % y).natAbs = x.natAbs % y.natAbs := by
          rw [Int.natAbs_emod_of_nonneg x0]
        rw [this, Nat.gcd_comm x.natAbs, Nat.gcd_rec y.natAbs x.natAbs]
      · show (x % y).toNat < y.toNat
        omega
    · have z : ¬ y > 0 := fun h => z (decide_eq_true h)
      have y00 : y = 0 := by omega
      subst y00
      have hg : x = RT.gg t b := by
        unfold RT.gg
        rw [← g]
        show x = ((Nat.gcd x.natAbs 0 : Nat) : Int)
        rw [Nat.gcd_zero_right]
        omega
      refine ⟨fun σ' H2 => σ' = [some (.int t), some (.int b), some (.int (RT.byv t b)), some (.int 0)] ∧ H2 = H', ?_, ?_⟩
      · refine ⟨_, rfl, _, _, rfl, rfl, _, rfl, ?_⟩
        refine ite2 (fun z => ?_) (fun z => ?_)
        · have z := of_decide_eq_true z
          refine ⟨_, rfl, _, _, rfl, rfl, ?_, rfl⟩
          have e : (0 : Int) - x = RT.byv t b := by
            unfold RT.byv
            rw [if_neg (by omega), hg]
            omega
          show [some (V.int t), some (V.int b), some (V.int (0 - x)), some (V.int 0)] = _
          rw [e]
        · have z : ¬ b < 0 := fun h => z (decide_eq_true h)
          refine ⟨?_, rfl⟩
          have e : x = RT.byv t b := by
            unfold RT.byv
            rw [if_pos (by omega), hg]
          rw [e]
      · rintro σ' H' ⟨rfl, rfl⟩
        have hdiv : ∀ x : Int, CDivZ x (RT.byv t b) := fun x => divZ (RT.byv_ne hb) (Nat.lt_of_le_of_lt (RT.byv_le hb) hz) (by decide) (by decide)
        refine ⟨_, rfl, _, rfl, _, _, rfl, rfl, hdiv t, _, rfl, _, rfl, _, _, rfl, rfl, hdiv b, (by show 2 ≤ sizeLine; decide), fun r nr => ?_⟩
        exact k r _ (Same.upd nr) nr upd_same
end
end RX

set_option Elab.async false
set_option maxRecDepth 100000
namespace RX
open PySem L2
abbrev sIsInt : Stmt := topS 16
abbrev sSame : Stmt := topS 17
def spIsInt : Sp := fun vs H Q _ => ∃ n : Int, vs = [.int n] ∧ Q (.bl true) H
/-- a Ratio and a pair that are the same -/
def spSame (C : Addr) : Sp := fun vs H Q _ => ∃ (p q : Addr) (n d : Int), vs = [.ref p, .ref q] ∧ RatAt C H p n d ∧ PairAt H q n d ∧ Q (.bl true) H
section
variable {P : Program} {w : World} {K : PySem.W.Frag} {mg : Str → Option Value} {base : Heap}
theorem scIs : FnScope ["actual"] ["actual"] (defScope sIsInt) := ⟨rfl, rfl, rfl, by decide +kernel, rfl, by decide +kernel, by decide +kernel⟩
theorem ok_isInt {f : Addr} {fd : FuncData} (F : Fun K "_law_is_integer" "_law_is_integer" sIsInt f fd) (T : TxtL mg) : FnOk P w K mg base CX0 1 f fd ["actual"] spIsInt := by
  refine F.ok scIs (fun vs H Q E h => ?_) (fun cdv A outer s H vs Q E hr h => ?_)
  · obtain ⟨n, rfl, _⟩ := h
    rfl
  · obtain ⟨n, rfl, k⟩ := h
    refine ⟨_, pss_one (ps_ret (pe_and (pe_callB call_isi (by rfl) T.isi (by decide +kernel) (pa_cons (pv 0) (pa_cons (pe_bltn (v := .ty "int") (by rfl) T.int (by decide +kernel) rfl) pa_nil)))
      (pe_one (pe_not (pe_callB call_isi (by rfl) T.isi (by decide +kernel) (pa_cons (pv 0) (pa_cons (pe_bltn (v := .ty "bool") (by rfl) T.bool (by decide +kernel) rfl) pa_nil))))))), ?_⟩
    refine ⟨_, rfl, _, _, _, _, true, rfl, .ty _, .base (.int n), kit_ty (by decide +kernel), true, rfl, ?_⟩
    refine iteT ?_
    exact ⟨_, rfl, _, _, _, _, false, rfl, .ty _, .base (.int n), kit_ty (by decide +kernel), false, rfl, k⟩
theorem scSa : FnScope ["actual", "due"] ["actual", "due"] (defScope sSame) := ⟨rfl, rfl, rfl, by decide +kernel, rfl, by decide +kernel, by decide +kernel⟩
theorem ok_same {f fI C : Addr} {fd fdI : FuncData} (F : Fun K "_law_same" "_law_same" sSame f fd) (T : TxtL mg) (R : TxtR K mg C) (c : C8.InsC K C) (GI : FnOk P w K mg base CX0 1 fI fdI ["actual"] spIsInt) (mI : mg "_law_is_integer" = some (.ref fI)) (kI : PySem.W.keepIn K (.ref fI) = true) (bI : Binds K fdI ["actual"] []) :
    FnOk P w K mg base CX0 2 f fd ["actual", "due"] (spSame C) := by
  refine F.ok scSa (fun vs H Q E h => ?_) (fun cdv A outer s H vs Q E hr h => ?_)
  · obtain ⟨p, q, n, d, rfl, _⟩ := h
    rfl
  · obtain ⟨p, q, n, d, rfl, ⟨dx, hp⟩, hq, k⟩ := h
    refine ⟨_, pss_cons (ps_if (pt_not (pt_val (pe_callB (C8.call_isC c) (by rfl) T.isi (by decide +kernel) (pa_cons (pv 0) (pa_cons (pe_glob (v := .ref C) (by rfl) R.mgC rfl) pa_nil))))) (pss_one ps_never) pss_nil)
      (pss_cons (ps_if (PW.pt (pw_or (pt_not (pt_val (pe_call GI hr rfl mI kI bI .nil pass0 (pa_cons (pe_fld (pv 0) rfl) pa_nil)))) (pw_or1 (pt_not (pt_val (pe_call GI hr rfl mI kI bI .nil pass0 (pa_cons (pe_fld (pv 0) rfl) pa_nil)))))))
        (pss_one ps_never) pss_nil)
      (pss_one (ps_ret (pe_and (pe_cmpR op_eq (pe_fld (pv 0) rfl) (pe_ix ix_tup (pv 1) pe_int (fun _ _ => rfl)) (nomark _)) (pe_one (pe_cmpR op_eq (pe_fld (pv 0) rfl) (pe_ix ix_tup (pv 1) pe_int (fun _ _ => rfl)) (nomark _))))))), ?_⟩
    refine ⟨_, rfl, p, dx, _, rfl, hp, true, rfl, ?_⟩
    refine iteF ?_
    refine ⟨_, rfl, p, C, dx, _, _, rfl, hp, R.cl, R.nT, rf_top _ _, n, rfl, true, rfl, ?_⟩
    refine iteF ?_
    refine ⟨_, rfl, p, C, dx, _, _, rfl, hp, R.cl, R.nB, rf_bot _ _, d, rfl, true, rfl, ?_⟩
    refine iteF ?_
    refine ⟨_, rfl, p, C, dx, _, _, rfl, hp, R.cl, R.nT, rf_top _ _, _, rfl, q, _, 0, _, rfl, rfl, hq.t, rfl, rfl, true, (by rw [decide_eq_true rfl]), ?_⟩
    refine iteT ?_
    refine ⟨_, rfl, p, C, dx, _, _, rfl, hp, R.cl, R.nB, rf_bot _ _, _, rfl, q, _, 1, _, rfl, rfl, hq.t, rfl, rfl, ?_⟩
    show Q (V.bl (decide (V.int d = V.int d))) H
    rw [decide_eq_true rfl]
    exact k
end
end RX

set_option Elab.async false
set_option maxRecDepth 100000
namespace RX
open PySem L2
theorem map_range_ext {α : Type} {i : Nat} {f g : Nat → α} (h : ∀ j, j < i → f j = g j) : (List.range i).map f = (List.range i).map g :=
  List.map_congr_left fun j hj => h j (List.mem_range.mp hj)
/-- one more at the end -/
def ext {α : Type} (f : Nat → α) (i : Nat) (x : α) : Nat → α := fun j => if j = i then x else f j
theorem ext_same {α : Type} (f : Nat → α) (i : Nat) (x : α) : ext f i x i = x := if_pos rfl
theorem ext_lt {α : Type} (f : Nat → α) {i j : Nat} (x : α) (h : j < i) : ext f i x j = f j := if_neg (by omega)
theorem map_ext {α : Type} (f : Nat → α) (i : Nat) (x : α) : (List.range (i + 1)).map (ext f i x) = (List.range i).map f ++ [x] := by
  rw [List.range_succ, List.map_append]
  rw [map_range_ext (f := ext f i x) (g := f) fun j h => ext_lt f x h]
  show _ ++ [ext f i x i] = _
  rw [ext_same]
theorem FeedAt.lst {H : Hp} {a cl : Addr} (h : FeedAt H a cl) : ∃ xs, H a = some (.lst xs) := let ⟨_, _, _, _, f⟩ := h; ⟨_, f.hA⟩
theorem FeedAt.lst2 {H : Hp} {a cl : Addr} (h : FeedAt H a cl) : ∃ xs, H cl = some (.lst xs) := let ⟨_, _, _, _, f⟩ := h; ⟨_, f.hC⟩
theorem FeedAt.other {H : Hp} {a cl r : Addr} {o : HO} (h : FeedAt H a cl) (h1 : r ≠ a) (h2 : r ≠ cl) : FeedAt (upd H r o) a cl :=
  let ⟨cs, i, p, s, f⟩ := h
  ⟨cs, i, p, s, by rw [upd_ne h1.symm]; exact f.hA, by rw [upd_ne h2.symm]; exact f.hC, f.ne, f.i0, f.p0, f.s0, f.s1, f.len, f.nn⟩
theorem PairAt.ne {H : Hp} {q R : Addr} {n d : Int} {xs : List V} (h : PairAt H q n d) (h2 : H R = some (.lst xs)) : q ≠ R := ne_of h h2 (by intro z; cases z)
theorem PairAt.other {H : Hp} {q R : Addr} {n d : Int} {o : HO} (h : PairAt H q n d) (ne : q ≠ R) : PairAt (upd H R o) q n d := by
  show upd H R o q = _
  rw [upd_ne ne]
  exact h
theorem PairAt.but {H H' : Hp} {a q : Addr} {n d : Int} (h : PairAt H q n d) (x : But a H H') (ne : q ≠ a) : PairAt H' q n d := x _ _ h ne
theorem RatAt.other {C : Addr} {H : Hp} {q R : Addr} {n d : Int} {o : HO} (h : RatAt C H q n d) (ne : q ≠ R) : RatAt C (upd H R o) q n d := by
  obtain ⟨dx, h⟩ := h
  exact ⟨dx, by rw [upd_ne ne]; exact h⟩
theorem ex1 (x : Int) : V.bl (decide (V.int x = V.int x)) = V.bl true := by rw [decide_eq_true rfl]
end RX

set_option Elab.async false
set_option maxRecDepth 100000
namespace RX
open PySem L2
/-! ### rows, tables, what comprehensions build -/
/-- k of them, one after another -/
def refs (k : Nat) (a : Nat → Addr) : List V := (List.range k).map fun i => V.ref (a i)
theorem refs_len (k : Nat) (a : Nat → Addr) : (refs k a).length = k := by unfold refs; rw [List.length_map, List.length_range]
theorem refs_get {k : Nat} {a : Nat → Addr} {i : Nat} (h : i < k) : (refs k a)[i]? = some (.ref (a i)) := by
  unfold refs
  rw [List.getElem?_map, List.getElem?_range h]
  rfl
theorem refs_lt {k : Nat} {a : Nat → Addr} {i : Nat} {x : V} (h : (refs k a)[i]? = some x) : i < k ∧ x = .ref (a i) := by
  have hi : i < k := by
    have := (List.getElem?_eq_some_iff.mp h).1
    rw [refs_len] at this
    exact this
  rw [refs_get hi] at h
  exact ⟨hi, (Option.some.inj h).symm⟩
/-- a tuple of Ratios -/
structure RowAt (C : Addr) (H : Hp) (p : Addr) (k : Nat) (a : Nat → Addr) (n d : Nat → Int) : Prop where
  hp : H p = some (.tup (refs k a))
  r : ∀ i, i < k → RatAt C H (a i) (n i) (d i)
theorem RowAt.same {C : Addr} {H H' : Hp} {p : Addr} {k : Nat} {a : Nat → Addr} {n d : Nat → Int} (h : RowAt C H p k a n d) (s : Same H H') : RowAt C H' p k a n d := ⟨s _ _ h.hp, fun i hi => (h.r i hi).same s⟩
theorem refs_ext (S : Nat → Addr) (i : Nat) (x : Addr) : refs (i + 1) (ext S i x) = refs i S ++ [.ref x] := by
  unfold refs
  rw [List.range_succ, List.map_append]
  rw [map_range_ext (f := fun j => V.ref (ext S i x j)) (g := fun j => V.ref (S j)) fun j h => by rw [ext_lt S x h]]
  show _ ++ [V.ref (ext S i x i)] = _
  rw [ext_same]
/-- a property of an address that stays -/
structure Stays (Pr : Hp → Nat → Addr → Prop) : Prop where
  s : ∀ {H H' : Hp} {j : Nat} {x : Addr}, Same H H' → Pr H j x → Pr H' j x
  u : ∀ {H : Hp} {j : Nat} {x D : Addr} {xs ys : List V}, H D = some (.lst xs) → Pr H j x → Pr (upd H D (.lst ys)) j x
structure Built (Pr : Hp → Nat → Addr → Prop) (H : Hp) (D : Addr) (i : Nat) (S : Nat → Addr) (H2 : Hp) : Prop where
  hD : H2 D = some (.lst (refs i S))
  pr : ∀ j, j < i → Pr H2 j (S j)
  s : Same H H2
theorem built0 {Pr : Hp → Nat → Addr → Prop} {H : Hp} {D : Addr} (nD : H D = none) : Built Pr H D 0 (fun _ => D) (upd H D (.lst [])) :=
  ⟨upd_same, fun _ h => absurd h (by omega), Same.upd nD⟩
theorem Built.step {Pr : Hp → Nat → Addr → Prop} {H H2 H3 : Hp} {D x : Addr} {i : Nat} {S : Nat → Addr} (B : Built Pr H D i S H2) (st : Stays Pr) (nD : H D = none) (s : Same H2 H3) (p : Pr H3 i x) :
    Built Pr H D (i + 1) (ext S i x) (upd H3 D (.lst (refs i S ++ [.ref x]))) := by
  have h3 := s _ _ B.hD
  refine ⟨by rw [upd_same, refs_ext], fun j hj => ?_, fun b o e => by rw [upd_ne (ne_of_none e nD)]; exact s _ _ (B.s _ _ e)⟩
  refine st.u h3 ?_
  by_cases e : j = i
  · subst e; rw [ext_same]; exact p
  · rw [ext_lt S x (by omega)]
    exact st.s s (B.pr j (by omega))
theorem RatAt.ne {C : Addr} {H : Hp} {p D : Addr} {n d : Int} {xs : List V} (h : RatAt C H p n d) (h2 : H D = some (.lst xs)) : p ≠ D := by
  obtain ⟨dx, h⟩ := h
  exact ne_of h h2 (by intro z; cases z)
theorem RowAt.updL {C : Addr} {H : Hp} {p D : Addr} {k : Nat} {a : Nat → Addr} {n d : Nat → Int} {xs ys : List V} (h : RowAt C H p k a n d) (h2 : H D = some (.lst xs)) : RowAt C (upd H D (.lst ys)) p k a n d :=
  ⟨by rw [upd_ne (ne_of h.hp h2 (by intro z; cases z))]; exact h.hp, fun i hi => (h.r i hi).other ((h.r i hi).ne h2)⟩
theorem stays_rat {C : Addr} {n d : Nat → Int} : Stays (fun H j x => RatAt C H x (n j) (d j)) := ⟨fun s h => h.same s, fun h2 h => h.other (h.ne h2)⟩
theorem stays_row {C : Addr} {k : Nat} {n d : Nat → Nat → Int} : Stays (fun H i x => ∃ a, RowAt C H x k a (n i) (d i)) := ⟨fun s ⟨a, h⟩ => ⟨a, h.same s⟩, fun h2 ⟨a, h⟩ => ⟨a, h.updL h2⟩⟩
/-- a table of Ratios -/
structure TabAt (C : Addr) (H : Hp) (p : Addr) (h w : Nat) (R : Nat → Addr) (A : Nat → Nat → Addr) (N D : Nat → Nat → Int) : Prop where
  hp : H p = some (.tup (refs h R))
  r : ∀ i, i < h → RowAt C H (R i) w (A i) (N i) (D i)
theorem TabAt.same {C : Addr} {H H' : Hp} {p : Addr} {h w : Nat} {R : Nat → Addr} {A : Nat → Nat → Addr} {N D : Nat → Nat → Int} (x : TabAt C H p h w R A N D) (s : Same H H') : TabAt C H' p h w R A N D := ⟨s _ _ x.hp, fun i hi => (x.r i hi).same s⟩
/-- a list of pairs -/
structure LineAt (H : Hp) (q : Addr) (k : Nat) (a : Nat → Addr) (n d : Nat → Int) : Prop where
  hq : H q = some (.lst (refs k a))
  p : ∀ i, i < k → PairAt H (a i) (n i) (d i)
theorem LineAt.same {H H' : Hp} {q : Addr} {k : Nat} {a : Nat → Addr} {n d : Nat → Int} (h : LineAt H q k a n d) (s : Same H H') : LineAt H' q k a n d := ⟨s _ _ h.hq, fun i hi => (h.p i hi).same s⟩
/-- a list of lists of pairs -/
structure LinesAt (H : Hp) (q : Addr) (h w : Nat) (R : Nat → Addr) (A : Nat → Nat → Addr) (N D : Nat → Nat → Int) : Prop where
  hq : H q = some (.lst (refs h R))
  r : ∀ i, i < h → LineAt H (R i) w (A i) (N i) (D i)
theorem LinesAt.same {H H' : Hp} {q : Addr} {h w : Nat} {R : Nat → Addr} {A : Nat → Nat → Addr} {N D : Nat → Nat → Int} (x : LinesAt H q h w R A N D) (s : Same H H') : LinesAt H' q h w R A N D := ⟨s _ _ x.hq, fun i hi => (x.r i hi).same s⟩
theorem Built.tab {C : Addr} {H H4 : Hp} {D : Addr} {h k : Nat} {S : Nat → Addr} {n d : Nat → Nat → Int} (B : Built (fun H i x => ∃ a, RowAt C H x k a (n i) (d i)) H D h S H4) {r : Addr} (nr : H4 r = none) :
    ∃ A, TabAt C (upd H4 r (.tup (refs h S))) r h k S A n d := by
  have s5 : Same H4 (upd H4 r (.tup (refs h S))) := Same.upd nr
  have ch : ∀ i, ∃ a, i < h → RowAt C H4 (S i) k a (n i) (d i) := fun i => by
    by_cases hi : i < h
    · obtain ⟨a, ha⟩ := B.pr i hi
      exact ⟨a, fun _ => ha⟩
    · exact ⟨fun _ => 0, fun h => absurd h hi⟩
  obtain ⟨B2, hB2⟩ := Classical.axiomOfChoice ch
  exact ⟨B2, upd_same, fun i hi => (hB2 i hi).same s5⟩
theorem LineAt.ne {H : Hp} {q F : Addr} {k : Nat} {a : Nat → Addr} {n d : Nat → Int} {xs : List V} (h : LineAt H q k a n d) (hF : H F = some (.lst xs)) : ∀ i, i < k → a i ≠ F := fun i hi => (h.p i hi).ne hF
theorem LineAt.other {H : Hp} {q F : Addr} {k : Nat} {a : Nat → Addr} {n d : Nat → Int} {xs : List V} {o : HO} (h : LineAt H q k a n d) (hF : H F = some (.lst xs)) (ne : q ≠ F) : LineAt (upd H F o) q k a n d :=
  ⟨by rw [upd_ne ne]; exact h.hq, fun i hi => (h.p i hi).other (h.ne hF i hi)⟩
theorem LineAt.but {H H' : Hp} {q F : Addr} {k : Nat} {a : Nat → Addr} {n d : Nat → Int} {xs : List V} (h : LineAt H q k a n d) (b : But F H H') (hF : H F = some (.lst xs)) (ne : q ≠ F) : LineAt H' q k a n d :=
  ⟨b _ _ h.hq ne, fun i hi => (h.p i hi).but b (h.ne hF i hi)⟩
theorem LinesAt.but {H H' : Hp} {q F : Addr} {h w : Nat} {R : Nat → Addr} {A : Nat → Nat → Addr} {N D : Nat → Nat → Int} {xs : List V} (x : LinesAt H q h w R A N D) (b : But F H H') (hF : H F = some (.lst xs)) (ne : q ≠ F) (nr : ∀ i, i < h → R i ≠ F) : LinesAt H' q h w R A N D :=
  ⟨b _ _ x.hq ne, fun i hi => (x.r i hi).but b hF (nr i hi)⟩
theorem refs_last (k : Nat) (a : Nat → Addr) : atI (refs (k + 1) a) (-1) = some (.ref (a k)) := by
  have : refs (k + 1) a = refs k a ++ [.ref (a k)] := by
    unfold refs
    rw [List.range_succ, List.map_append]
    rfl
  rw [this]
  exact atI_last _ _
def rTupO (K : PySem.W.Frag) : List V → Hp → VK → Prop := fun xs H Q => ∃ p ys, xs = [.ref p] ∧ ((SqL K H p ys ∧ ∀ l : Addr, H l = none → Q (.ref l) (upd H l (.tup ys))) ∨ SqT K H p ys ∧ Q (.ref p) H)
theorem call_tupK {X : Cx} : CallR X (.type "tuple") (rTupO X.K) := call_tuple_of
structure TxtP (mg : Str → Option Value) : Prop where
  zip : mg "zip" = none
  lcm : mg "lcm" = some (.builtin "math.lcm")
  tup : mg "tuple" = none
  list : mg "list" = none
  range : mg "range" = none
end RX

set_option Elab.async false
set_option maxRecDepth 100000
/-! // by a divisor of any size: the room that it wants, from the head on -/
namespace PL
open PySem PySem.Spec PyProof.Rows L2
/-- what // of great numbers asks of program and base -/
structure Big (P : Program) (base : Heap) : Prop where
  ns : base.NoSeer
  tr : P.given.tree = none
/-- the frame on top is a plain one -/
def Plain (X : Cx) : Prop := ∃ e l, X.stack = e :: l ∧ e.scope.isGenerator = false ∧ e.scope.isCoroutine = false ∧ e.builtins = builtinsNs ∧ e.globals = mainGlobals
theorem room {X : Cx} {pins : List (Addr × Obj)} {σ : L2.St} {H : Hp} {s : Shared} (B : Big X.prog X.base) (hr : Room 32 X.A) (hp : Plain X) (I : Inv X pins σ H s) : PylongRoom (model X.prog X.w) X.A s := by
  obtain ⟨e, l, h1, h2, h3, h4, h5⟩ := hp
  have fr := I.ok.frames
  rw [h1] at fr
  have sr : SeerAt (model X.prog X.w) X.A s.heap := SeerAt.of (B.ns.keeps I.bk) B.tr fr h2 h3 h4 h5
  refine PylongRoom.of I.nolimit ?_ sr
  have := hr.dp
  show X.A.depth + 100 < recursionLimit
  omega
theorem op_fdivP {X : Cx} (B : Big X.prog X.base) (hr : Room 32 X.A) (hp : Plain X) : OpR X (binaryOp .FloorDiv) (rI (fun _ j => j ≠ 0) fun i j => .int (i.fdiv j)) := by
  intro pins s σ H x y v u Q I rx ry ⟨i, j, ex, ey, hj, q⟩
  subst ex ey
  obtain ⟨t, rfl⟩ := rx
  obtain ⟨t', rfl⟩ := ry
  exact floordiv_int hj ⟨.int (i.fdiv j), H, I.tok _, ⟨_, rfl⟩, q⟩ (.inr (room B hr hp I))
/-- the law's call, with the room for great divisions told of the base -/
theorem big_call {P : Program} {w : World} {K : PySem.W.Frag} {mg mb : Str → Option Value} {CX : CXT} {k : Nat} {fa a : Addr} {fd : FuncData} {x : Str} {sp : Sp} {s : Shared} {us : List Value} {ns : List Int} (hS : s.heap.NoSeer)
    (hK : K.In s.heap) (h1 : s.heap.Ns mainGlobals mg) (h2 : s.heap.Ns builtinsNs mb) (h3 : ∀ x : Str, x ≠ "__name__" → mb x = bootBuiltins x) (h4 : s.heap.NoLimit) (h5 : s.gens = #[])
    (h6 : s.heap.get? a = some { cls := .type "list", data := .seq us.toArray }) (h7 : IntsAre us ns) (h8 : ns.length ≤ sizeLine) (h9 : Room k callerA)
    (F : ∀ base : Heap, K.In base → base.Ns mainGlobals mg → base.NoSeer → FnOk P w K mg base CX k fa fd [x] sp) (hb : ∀ (s : Shared) (u : Value), BindsTo s fd ⟨[u], []⟩ [(x, u)])
    (hsp : ∀ H : Hp, Only H → SqL K H a (ns.map V.int) → sp [.ref a] H (fun v _ => v = .bl true) fun _ _ _ => False)
    (hc : ∀ H e s', CX [] H s (fun _ _ _ => False) e s' → False) :
    codeAny (model P w) callerA (.call (.ref fa) ⟨[.ref a], []⟩) (fun r s' => r = .ok (.ret (.bool true)) ∧ OldK s.heap s'.heap ∧ s'.os = s.os ∧ AllBare s'.gens) s := by
  have rel := vals_ints h7
  -- what is tracked: the script, where the written part has it not
  let fz : HO := .frz { cls := .type "list", data := .seq us.toArray } (.lst (ns.map V.int))
  let H : Hp := fun b => if b = a then (if (K.lookup a).isSome then none else some fz) else none
  have Hn : ∀ {b : Addr}, b ≠ a → H b = none := fun n => if_neg n
  have Hs : ∀ {b : Addr} {u : HO}, H b = some u → b = a ∧ u = fz ∧ K.lookup a = none := fun {b u} z => by
    by_cases e : b = a
    · subst e
      have z : (if b = b then (if (K.lookup b).isSome then none else some fz) else none) = some u := z
      rw [if_pos rfl] at z
      cases q : K.lookup b with
      | none =>
        rw [q] at z
        exact ⟨rfl, (Option.some.inj z).symm, rfl⟩
      | some o => rw [q] at z; cases z
    · rw [Hn e] at z; cases z
  have only : Only H := fun b => by
    cases q : H b with
    | none => exact .inl rfl
    | some u => exact .inr ⟨_, _, congrArg some (Hs q).2.1⟩
  have old : ∀ {b : Addr} {o : Obj}, s.heap.get? b = some o → b ≠ a → (hidT s.heap H).get? b = some o := fun e n => hidT_get e (Hn n)
  have notA : ∀ {b : Addr} {o : Obj}, s.heap.get? b = some o → (∀ vs n, o.data ≠ .seq vs n) → b ≠ a := fun {b o} e d z => by
    rw [z, h6] at e
    exact d _ _ (congrArg Obj.data (Option.some.inj e)).symm
  have dictA : ∀ {b : Addr} {m : Str → Option Value}, s.heap.Ns b m → (hidT s.heap H).Ns b m := fun {b m} z => by
    obtain ⟨o, es, ep, e, d, r⟩ := z
    exact ⟨o, es, ep, old e (notA e fun vs n y => by rw [d] at y; cases y), d, r⟩
  have kin : K.In (hidT s.heap H) := fun b o e => by
    have e1 := hK b o e
    cases q : H b with
    | none => exact hidT_get e1 q
    | some u =>
      obtain ⟨rfl, _, y⟩ := Hs q
      rw [y] at e; cases e
  have lim : (hidT s.heap H).NoLimit := by
    obtain ⟨mc, l1, l2⟩ := h4
    exact ⟨mc, dictA l1, l2⟩
  have seer : (hidT s.heap H).NoSeer := by
    obtain ⟨⟨m1, a1, b1⟩, ⟨m2, a2, b2⟩, ⟨m3, a3, b3⟩, ⟨m4, bm, ob, a4, b4, c4, d4, e4⟩⟩ := hS
    refine ⟨⟨m1, dictA a1, b1⟩, ⟨m2, dictA a2, b2⟩, ⟨m3, dictA a3, b3⟩, ⟨m4, bm, ob, dictA a4, b4, old c4 (fun z => ?_), d4, e4⟩⟩
    rw [z, h6] at c4
    rw [← Option.some.inj c4] at d4
    have d5 : Value.type "list" = Value.type "module" := d4
    injection d5 with d5
    exact absurd d5 (by decide)
  have md : Mod K mg (hidT s.heap H) := ⟨kin, dictA h1, ⟨mb, dictA h2, h3⟩, lim⟩
  have hok : HOk P w H s.heap := fun b u z => by
    obtain ⟨rfl, rfl, _⟩ := Hs z
    exact ⟨h6, by rw [List.length_map]; exact h8, us, _, rel, h6⟩
  have sq : SqL K H a (ns.map V.int) := by
    cases q : K.lookup a with
    | none =>
      refine .inl (.inr ⟨{ cls := .type "list", data := .seq us.toArray }, ?_⟩)
      show (if a = a then (if (K.lookup a).isSome then none else some fz) else none) = _
      rw [if_pos rfl, q]
      rfl
    | some o =>
      have e1 := (hK a o q).symm.trans h6
      obtain rfl := Option.some.inj e1
      exact .inr ⟨_, us.toArray, _, q, rfl, rfl, rfl, by rw [List.size_toArray, h7.length]; exact h8, by simpa using rel⟩
  have env : Env0 P w K mg (hidT s.heap H) callerA [] s H := ⟨rfl, md, fun b o e => of_hidT e, Nat.le_of_eq (hidT_size _ _), trivial, (fun b z => nomatch z), hok, .of_eq h5⟩
  refine codeAny_mono ((F _ kin (dictA h1) seer).run callerA [] s H ⟨[.ref a], []⟩ [.ref a] [.ref a] _ _ h9 env (hb s (.ref a)) (.cons rfl .nil) (hsp H only sq)) fun r s' z => ?_
  match r, z with
  | .error e, z => exact (hc H e s' z).elim
  | .ok .next, z => exact z.elim
  | .ok .brk, z => exact z.elim
  | .ok .cont, z => exact z.elim
  | .ok (.ret u), z =>
    obtain ⟨v, H', os, bare, un, hok', ru, ev⟩ := z
    have ev : v = .bl true := ev
    subst ev
    have ru : u = Value.bool true := ru
    subst ru
    refine ⟨rfl, OldK.of_keep fun b o e => ?_, os, bare⟩
    cases q : H b with
    | none => exact un.keep b o e q (fun y => by cases y) (fun y => by cases y)
    | some u2 =>
      obtain ⟨rfl, rfl, _⟩ := Hs q
      have y1 := (hok b _ q).1
      have y2 := (hok' b _ (un.frzs b _ _ q)).1
      exact y2.trans (y1.symm.trans e)
theorem big_walk {l : PySem.W.OpenLaw} {n k : Nat} {q : Program} {loose : List Str} {XP : (Str → Option Value) → Heap → Prop} {YP : World → Heap → Prop} {d : DefRec} {K : Params → PySem.W.Frag} {CX : World → CXT} {sp : World → Sp} {x : Str}
    (hi : importsNone q = true) (h1 : l.most = some n) (h2 : n ≤ sizeLine) (h3 : d.params.defaults = []) (hr : Room k callerA)
    (hY : ∀ (w : World) (h : Heap), YP w h → (K w.params).In h)
    (F : ∀ (w : World) (mg : Str → Option Value) (fa : Addr) (h : Heap), (K w.params).In h → h.Ns mainGlobals mg → mg d.name = some (.ref fa) →
      ∃ fd : FuncData, (∀ (s : Shared) (u : Value), BindsTo s fd ⟨[u], []⟩ [(x, u)]) ∧
        ∀ base : Heap, (K w.params).In base → base.Ns mainGlobals mg → base.NoSeer → FnOk l.prog w (K w.params) mg base (CX w) k fa fd [x] (sp w))
    (hsp : ∀ (w : World) (H : Hp) (a : Addr) (ns : List Int), ns.length ≤ n → Only H → SqL (K w.params) H a (ns.map V.int) → sp w [.ref a] H (fun v _ => v = .bl true) fun _ _ _ => False)
    (hC : ∀ (w : World) (H : Hp) (s : Shared) (e : Value) (s' : Shared), CX w [] H s (fun _ _ _ => False) e s' → False) :
    PySem.W.WalkO q loose XP YP l.row.toRowW d [] (fun f vs => PySem.call f vs) := by
  refine Att.attach_call h1 h3 fun w s0 s mg mb fa o pm cd doc a us ns G Y _ _ _ gf ga gi gl gg => ?_
  obtain ⟨fd, hb, hF⟩ := F w mg fa _ (hY w _ Y) G.T.g gf
  exact big_call (G.T.seer hi) (hY w _ Y) G.T.g G.T.b G.T.builtins G.T.nolimit gg ga gi (Nat.le_trans gl h2) hr hF hb (fun H o z => hsp w H a ns gl o z) fun H e s' => hC w H s e s'
end PL

set_option Elab.async false
set_option maxRecDepth 100000
/-! Ratios as numbers, of any size that the model holds -/
namespace RQ
open PySem L2
def Bt (b : Nat) (x : Int) : Prop := x.natAbs < 2 ^ b
theorem Bt.up {a b : Nat} {x : Int} (h : Bt a x) (l : a ≤ b) : Bt b x := Nat.lt_of_lt_of_le h (Nat.pow_le_pow_right (by decide) l)
theorem Bt.mul {a b : Nat} {x y : Int} (h : Bt a x) (k : Bt b y) : Bt (a + b) (x * y) := by
  unfold Bt
  rw [Int.natAbs_mul, Nat.pow_add]
  exact Nat.mul_lt_mul'' h k
theorem Bt.add {a : Nat} {x y : Int} (h : Bt a x) (k : Bt a y) : Bt (a + 1) (x + y) := by
  unfold Bt at *
  have := Int.natAbs_add_le x y
  rw [Nat.pow_succ]
  omega
theorem Bt.sub {a : Nat} {x y : Int} (h : Bt a x) (k : Bt a y) : Bt (a + 1) (x - y) := by
  unfold Bt at *
  have := Int.natAbs_sub_le x y
  rw [Nat.pow_succ]
  omega
theorem Bt.neg {a : Nat} {x : Int} (h : Bt a x) : Bt a (-x) := by
  unfold Bt at *
  rw [Int.natAbs_neg]
  exact h
theorem Bt.le {a : Nat} {x y : Int} (h : Bt a x) (l : y.natAbs ≤ x.natAbs) : Bt a y := Nat.lt_of_le_of_lt l h
theorem Bt.log {a : Nat} {x : Int} (h : Bt a x) : x.natAbs.log2 ≤ a := by
  by_cases z : x.natAbs = 0
  · rw [z]; exact Nat.zero_le _
  · exact Nat.le_of_lt ((Nat.log2_lt z).mpr h)
/-- of at most sixty million bits -/
def Hg (x : Int) : Prop := ∃ b, b ≤ 60000000 ∧ Bt b x
theorem Bt.hg {a : Nat} {x : Int} (h : Bt a x) (l : a ≤ 60000000) : Hg x := ⟨a, l, h⟩
def CMulH (i j : Int) : Prop := Hg i ∧ Hg j
theorem CMulH.ok {i j : Int} (h : CMulH i j) : IntMulOk i j := by
  obtain ⟨⟨a, la, ha⟩, ⟨b, lb, hb⟩⟩ := h
  have ia : ∀ z : Int, Builtin.Int.intBits z ≤ z.natAbs.log2 + 1 := fun z => by unfold Builtin.Int.intBits; split <;> omega
  have e1 := ia i
  have e2 := ia j
  have e3 := ha.log
  have e4 := hb.log
  have line : bitsLine = 134217728 := by decide
  unfold IntMulOk
  intro y
  have y := (Bool.and_eq_true_iff.mp y).2
  unfold Builtin.Int.intTooBig at y
  have y := of_decide_eq_true y
  rw [line] at y
  omega
theorem op_mulH {X : Cx} : OpR X (binaryOp .Mult) (rI CMulH fun i j => .int (i * j)) := opI fun _ _ _ _ _ _ _ hc q => PyProof.Rows.mul_int q hc.ok
/-! ### numbers -/
theorem den0 (q : Rat) : ((q.den : Int) : Rat) ≠ 0 := fun z => q.den_nz (by
  have : ((q.den : Int) : Rat) = ((0 : Int) : Rat) := z
  have := Rat.intCast_inj.mp this
  omega)
theorem nd (q : Rat) : (q.num : Rat) = q * ((q.den : Int) : Rat) := by
  have e : (q.num : Rat) / ((q.den : Int) : Rat) = q := by rw [← Rat.divInt_eq_div, Rat.num_divInt_den]
  have d := den0 q
  grind
theorem i0 {b : Int} (h : b ≠ 0) : (b : Rat) ≠ 0 := fun z => h (Rat.intCast_inj.mp (by rw [z]; rfl))
/-- lowest terms of t / b -/
theorem low {t b : Int} (h : b ≠ 0) {q : Rat} (e : (t : Rat) = q * (b : Rat)) : RT.top t b = q.num ∧ RT.bot t b = (q.den : Int) := by
  have d0 : 0 < (q.den : Int) := by have := q.den_pos; omega
  refine RT.uniq (RT.bot_pos h) d0 (RT.cop h) (by rw [Int.natAbs_natCast]; exact q.reduced) ?_
  have c := RT.cross (t := t) h
  have c' : ((RT.top t b : Int) : Rat) * (b : Rat) = (t : Rat) * ((RT.bot t b : Int) : Rat) := by rw [← Rat.intCast_mul, c, Rat.intCast_mul]
  have n1 := nd q
  have b0 := i0 h
  refine Rat.intCast_inj.mp ?_
  rw [Rat.intCast_mul, Rat.intCast_mul]
  grind
theorem num0 {q : Rat} : q.num = 0 ↔ q = 0 := Rat.num_eq_zero
/-- z over m is the number -/
theorem den_dvd {q : Rat} {z m : Int} (h : m ≠ 0) (e : (z : Rat) = q * (m : Rat)) : (q.den : Int) ∣ m ∧ q.num ∣ z := by
  obtain ⟨e1, e2⟩ := low h e
  rw [← e1, ← e2]
  exact ⟨⟨RT.byv z m, (RT.bot_mul h).symm⟩, ⟨RT.byv z m, (RT.top_mul h).symm⟩⟩
end RQ

set_option exponentiation.threshold 100000
namespace RT
/-- the sum of the products of n / d with m / e, each step in lowest terms -/
def due (n d m e : Nat → Int) : Nat → Int × Int
  | 0 => (0, 1)
  | k + 1 => if n k ≠ 0 ∧ m k ≠ 0 then
      (top ((due n d m e k).1 * bot (n k * m k) (d k * e k) + top (n k * m k) (d k * e k) * (due n d m e k).2) ((due n d m e k).2 * bot (n k * m k) (d k * e k)),
       bot ((due n d m e k).1 * bot (n k * m k) (d k * e k) + top (n k * m k) (d k * e k) * (due n d m e k).2) ((due n d m e k).2 * bot (n k * m k) (d k * e k)))
    else due n d m e k
theorem due_yes {n d m e : Nat → Int} {k : Nat} (h1 : n k ≠ 0) (h2 : m k ≠ 0) : due n d m e (k + 1) =
    (top ((due n d m e k).1 * bot (n k * m k) (d k * e k) + top (n k * m k) (d k * e k) * (due n d m e k).2) ((due n d m e k).2 * bot (n k * m k) (d k * e k)),
       bot ((due n d m e k).1 * bot (n k * m k) (d k * e k) + top (n k * m k) (d k * e k) * (due n d m e k).2) ((due n d m e k).2 * bot (n k * m k) (d k * e k))) := if_pos ⟨h1, h2⟩
theorem due_no {n d m e : Nat → Int} {k : Nat} (h : ¬ (n k ≠ 0 ∧ m k ≠ 0)) : due n d m e (k + 1) = due n d m e k := if_neg h
abbrev BB : Nat := 2 ^ 134
/-- of at most 67 bits, the bottom above 0 -/
structure Fr (x y : Int) : Prop where
  n : x.natAbs < 2 ^ 67
  d : y.natAbs < 2 ^ 67
  p : 0 < y
structure DueOk (k : Nat) (p : Int × Int) : Prop where
  pos : 0 < p.2
  co : Nat.Coprime p.1.natAbs p.2.natAbs
  bot : p.2.natAbs ≤ BB ^ k
  top : p.1.natAbs ≤ k * BB * p.2.natAbs
theorem prod_lt {x y : Int} (h : x.natAbs < 2 ^ 67) (h' : y.natAbs < 2 ^ 67) : (x * y).natAbs ≤ BB := by
  rw [Int.natAbs_mul]
  have := Nat.mul_lt_mul'' h h'
  rw [← Nat.pow_add] at this
  exact Nat.le_of_lt this
theorem due_step {k : Nat} {p : Int × Int} (h : DueOk k p) {x y : Int} (hy : 0 < y) (x1 : x.natAbs ≤ BB) (y1 : y.natAbs ≤ BB) :
    DueOk (k + 1) (RT.top (p.1 * y + x * p.2) (p.2 * y), RT.bot (p.1 * y + x * p.2) (p.2 * y)) := by
  have hD : p.2 * y ≠ 0 := Int.mul_ne_zero (by have := h.pos; omega) (by omega)
  have hDp : 0 < (p.2 * y).natAbs := Int.natAbs_pos.mpr hD
  refine ⟨bot_pos hD, cop hD, ?_, ?_⟩
  · refine Nat.le_trans (bot_le hD) ?_
    rw [Int.natAbs_mul, Nat.pow_succ]
    exact Nat.mul_le_mul h.bot y1
  · have c := cross (t := p.1 * y + x * p.2) hD
    have c' : (RT.top (p.1 * y + x * p.2) (p.2 * y)).natAbs * (p.2 * y).natAbs = (p.1 * y + x * p.2).natAbs * (RT.bot (p.1 * y + x * p.2) (p.2 * y)).natAbs := by rw [← Int.natAbs_mul, c, Int.natAbs_mul]
    have t1 : (p.1 * y + x * p.2).natAbs ≤ (k + 1) * BB * (p.2 * y).natAbs := by
      refine Nat.le_trans (Int.natAbs_add_le _ _) ?_
      rw [Int.natAbs_mul, Int.natAbs_mul, Int.natAbs_mul]
      have a1 : p.1.natAbs * y.natAbs ≤ k * BB * p.2.natAbs * y.natAbs := Nat.mul_le_mul_right _ h.top
      have a2 : x.natAbs * p.2.natAbs ≤ BB * p.2.natAbs * y.natAbs := by
        have : 1 ≤ y.natAbs := by omega
        refine Nat.le_trans (Nat.mul_le_mul_right _ x1) ?_
        exact Nat.le_mul_of_pos_right _ this
      have : (k + 1) * BB * (p.2.natAbs * y.natAbs) = k * BB * p.2.natAbs * y.natAbs + BB * p.2.natAbs * y.natAbs := by
        rw [Nat.add_mul, Nat.add_mul, Nat.one_mul]
        congr 1 <;> ac_rfl
      rw [this]
      exact Nat.add_le_add a1 a2
    refine Nat.le_of_mul_le_mul_right ?_ hDp
    show (RT.top (p.1 * y + x * p.2) (p.2 * y)).natAbs * (p.2 * y).natAbs ≤ (k + 1) * BB * (RT.bot (p.1 * y + x * p.2) (p.2 * y)).natAbs * (p.2 * y).natAbs
    rw [c']
    have := Nat.mul_le_mul_right (RT.bot (p.1 * y + x * p.2) (p.2 * y)).natAbs t1
    refine Nat.le_trans this (Nat.le_of_eq ?_)
    ac_rfl
theorem DueOk.up {k : Nat} {p : Int × Int} (h : DueOk k p) : DueOk (k + 1) p :=
  ⟨h.pos, h.co, Nat.le_trans h.bot (Nat.pow_le_pow_right (by decide) (by omega)), Nat.le_trans h.top (Nat.mul_le_mul_right _ (Nat.mul_le_mul_right _ (by omega)))⟩
theorem due_ok {n d m e : Nat → Int} : ∀ {k : Nat}, (∀ j, j < k → Fr (n j) (d j) ∧ Fr (m j) (e j)) → DueOk k (due n d m e k)
  | 0, _ => ⟨show (0 : Int) < 1 by decide, Nat.coprime_one_right _, show 1 ≤ 1 by decide, Nat.zero_le _⟩
  | k + 1, h => by
    have i := due_ok (k := k) fun j hj => h j (by omega)
    obtain ⟨f1, f2⟩ := h k (by omega)
    by_cases z : n k ≠ 0 ∧ m k ≠ 0
    · rw [due_yes z.1 z.2]
      have hb : d k * e k ≠ 0 := Int.mul_ne_zero (by have := f1.p; omega) (by have := f2.p; omega)
      exact due_step i (bot_pos hb) (Nat.le_trans (top_le hb) (prod_lt f1.n f2.n)) (Nat.le_trans (bot_le hb) (prod_lt f1.d f2.d))
    · rw [due_no z]
      exact i.up
/-- the running sum over one bottom -/
structure SumAt (n d m e : Nat → Int) (k : Nat) (t b : Int) : Prop where
  pos : 0 < b
  bot : b.natAbs ≤ BB ^ k
  top : t.natAbs ≤ k * BB * b.natAbs
  eq : t * (due n d m e k).2 = (due n d m e k).1 * b
def lcmI (x y : Int) : Int := ((Nat.lcm x.natAbs y.natAbs : Nat) : Int)
theorem lcm_l (x y : Int) : x ∣ lcmI x y := by
  unfold lcmI
  exact Int.natAbs_dvd_natAbs.mp (by rw [Int.natAbs_natCast]; exact Nat.dvd_lcm_left _ _)
theorem lcm_r (x y : Int) : y ∣ lcmI x y := by
  unfold lcmI
  exact Int.natAbs_dvd_natAbs.mp (by rw [Int.natAbs_natCast]; exact Nat.dvd_lcm_right _ _)
theorem lcm_pos {x y : Int} (hx : 0 < x) (hy : 0 < y) : 0 < lcmI x y := by
  unfold lcmI
  have : 0 < Nat.lcm x.natAbs y.natAbs := Nat.lcm_pos (by omega) (by omega)
  omega
theorem lcm_le {x y : Int} (hx : 0 < x) (hy : 0 < y) : (lcmI x y).natAbs ≤ x.natAbs * y.natAbs := by
  unfold lcmI
  rw [Int.natAbs_natCast]
  exact Nat.le_of_dvd (Nat.mul_pos (by omega) (by omega)) (Nat.lcm_dvd_mul _ _)
theorem sum_zero {n d m e : Nat → Int} : SumAt n d m e 0 0 1 := ⟨by decide, by decide, by decide, by rfl⟩
theorem sum_no {n d m e : Nat → Int} {k : Nat} {t b : Int} (h : SumAt n d m e k t b) (z : n k * m k = 0) : SumAt n d m e (k + 1) t b := by
  refine ⟨h.pos, Nat.le_trans h.bot (Nat.pow_le_pow_right (by decide) (by omega)), Nat.le_trans h.top (Nat.mul_le_mul_right _ (Nat.mul_le_mul_right _ (by omega))), ?_⟩
  rw [due_no (fun ⟨x, y⟩ => Int.mul_ne_zero x y z)]
  exact h.eq
theorem sum_yes {n d m e : Nat → Int} {k : Nat} {t b : Int} (h : SumAt n d m e k t b) (f : ∀ j, j < k + 1 → Fr (n j) (d j) ∧ Fr (m j) (e j)) (z : n k * m k ≠ 0) :
    SumAt n d m e (k + 1) (t * (lcmI b (d k * e k)).fdiv b + n k * m k * (lcmI b (d k * e k)).fdiv (d k * e k)) (lcmI b (d k * e k)) := by
  obtain ⟨f1, f2⟩ := f k (by omega)
  have hb : 0 < d k * e k := Int.mul_pos f1.p f2.p
  have hL := lcm_pos h.pos hb
  have c1 := fdiv_of_dvd (by have := h.pos; omega) (lcm_l b (d k * e k))
  have c2 := fdiv_of_dvd (by omega) (lcm_r b (d k * e k))
  have hle := lcm_le h.pos hb
  generalize lcmI b (d k * e k) = L at *
  generalize L.fdiv b = q1 at *
  generalize L.fdiv (d k * e k) = q2 at *
  have dk := due_ok (n := n) (d := d) (m := m) (e := e) (k := k) fun j hj => f j (by omega)
  refine ⟨hL, ?_, ?_, ?_⟩
  · rw [Nat.pow_succ]
    exact Nat.le_trans hle (Nat.mul_le_mul h.bot (prod_lt f1.d f2.d))
  · refine Nat.le_trans (Int.natAbs_add_le _ _) ?_
    have e1 : q1.natAbs * b.natAbs = L.natAbs := by rw [← Int.natAbs_mul, c1]
    have e2 : q2.natAbs * (d k * e k).natAbs = L.natAbs := by rw [← Int.natAbs_mul, c2]
    have a1 : (t * q1).natAbs ≤ k * BB * L.natAbs := by
      rw [Int.natAbs_mul, ← e1]
      refine Nat.le_trans (Nat.mul_le_mul_right _ h.top) (Nat.le_of_eq ?_)
      ac_rfl
    have a2 : (n k * m k * q2).natAbs ≤ BB * L.natAbs := by
      rw [Int.natAbs_mul]
      refine Nat.mul_le_mul (prod_lt f1.n f2.n) ?_
      rw [← e2]
      exact Nat.le_mul_of_pos_right _ (by omega)
    have : (k + 1) * BB * L.natAbs = k * BB * L.natAbs + BB * L.natAbs := by
      rw [Nat.add_mul, Nat.add_mul, Nat.one_mul]
    rw [this]
    exact Nat.add_le_add a1 a2
  · have z1 : n k ≠ 0 := fun z' => z (by rw [z', Int.zero_mul])
    have z2 : m k ≠ 0 := fun z' => z (by rw [z', Int.mul_zero])
    rw [due_yes z1 z2]
    have hbn : d k * e k ≠ 0 := by omega
    have x1 := cross (t := n k * m k) hbn
    have y0 := bot_pos (t := n k * m k) hbn
    have he := h.eq
    have p0 := dk.pos
    generalize due n d m e k = p at *
    generalize RT.top (n k * m k) (d k * e k) = x at *
    generalize RT.bot (n k * m k) (d k * e k) = y at *
    have hD : p.2 * y ≠ 0 := Int.mul_ne_zero (by omega) (by omega)
    have c := cross (t := p.1 * y + x * p.2) hD
    have key : (t * q1 + n k * m k * q2) * (p.2 * y) = (p.1 * y + x * p.2) * L := by
      calc (t * q1 + n k * m k * q2) * (p.2 * y) = t * p.2 * (q1 * y) + n k * m k * y * (q2 * p.2) := by
            rw [Int.add_mul]; congr 1 <;> ac_rfl
        _ = p.1 * b * (q1 * y) + x * (d k * e k) * (q2 * p.2) := by rw [he, x1]
        _ = p.1 * y * (q1 * b) + x * p.2 * (q2 * (d k * e k)) := by congr 1 <;> ac_rfl
        _ = p.1 * y * L + x * p.2 * L := by rw [c1, c2]
        _ = _ := by rw [Int.add_mul]
    show (t * q1 + n k * m k * q2) * RT.bot (p.1 * y + x * p.2) (p.2 * y) = RT.top (p.1 * y + x * p.2) (p.2 * y) * L
    refine Int.eq_of_mul_eq_mul_right hD ?_
    calc (t * q1 + n k * m k * q2) * RT.bot (p.1 * y + x * p.2) (p.2 * y) * (p.2 * y) = ((t * q1 + n k * m k * q2) * (p.2 * y)) * RT.bot (p.1 * y + x * p.2) (p.2 * y) := by ac_rfl
      _ = ((p.1 * y + x * p.2) * RT.bot (p.1 * y + x * p.2) (p.2 * y)) * L := by rw [key]; ac_rfl
      _ = (RT.top (p.1 * y + x * p.2) (p.2 * y) * (p.2 * y)) * L := by rw [c]
      _ = RT.top (p.1 * y + x * p.2) (p.2 * y) * L * (p.2 * y) := by ac_rfl
theorem sum_end {n d m e : Nat → Int} {k : Nat} {t b : Int} (h : SumAt n d m e k t b) (f : ∀ j, j < k → Fr (n j) (d j) ∧ Fr (m j) (e j)) : RT.top t b = (due n d m e k).1 ∧ RT.bot t b = (due n d m e k).2 := by
  have dk := due_ok f
  have p0 := dk.pos
  have k1 := keeps dk.pos dk.co
  have s := same (t := t) (b := b) (t' := (due n d m e k).1) (b' := (due n d m e k).2) (by have := h.pos; omega) (by omega) h.eq
  exact ⟨s.1.trans k1.1, s.2.trans k1.2⟩
theorem BB_pow {k : Nat} (h : k ≤ 60) : BB ^ k ≤ 2 ^ 8040 := by
  have : BB ^ k ≤ BB ^ 60 := Nat.pow_le_pow_right (by decide) h
  exact Nat.le_trans this (by rw [← Nat.pow_mul]; exact Nat.le_refl _)
theorem BB_top {k x : Nat} (h : k ≤ 60) (hx : x ≤ 2 ^ 8040) : k * BB * x < 2 ^ 8200 := by
  have h1 : k * BB ≤ 2 ^ 6 * 2 ^ 134 := Nat.mul_le_mul_right _ (by omega)
  have h2 : k * BB * x ≤ 2 ^ 6 * 2 ^ 134 * 2 ^ 8040 := Nat.mul_le_mul h1 hx
  rw [← Nat.pow_add, ← Nat.pow_add] at h2
  exact Nat.lt_of_le_of_lt h2 (Nat.pow_lt_pow_right (by decide) (by decide))
end RT

set_option Elab.async false
set_option maxRecDepth 100000
set_option exponentiation.threshold 100000
namespace RX
open PySem L2
def rLcm : List V → Hp → VK → Prop := fun vs H Q => ∃ a b : Int, vs = [.int a, .int b] ∧ a.natAbs < 2 ^ 13000 ∧ b.natAbs < 2 ^ 13000 ∧ Q (.int (RT.lcmI a b)) H
theorem lcm_log {x : Nat} (h : x < 2 ^ 13000) : ¬ (max 1 x).log2 / 30 + 1 > 450 := by
  have : (max 1 x).log2 < 13000 := by
    refine (Nat.log2_lt (by omega)).mpr ?_
    have : 1 < 2 ^ 13000 := Nat.one_lt_two_pow (by decide)
    omega
  omega
theorem cr_lcm {X : Cx} : CallR X (.builtin "math.lcm") rLcm := by
  intro pins s σ H vs us Q I r h
  obtain ⟨a, b, rfl, ha, hb, q⟩ := h
  obtain ⟨t, u, rfl⟩ := Vals.int2 r
  have e1 : ((Nat.lcm 1 a.natAbs).lcm b.natAbs : Nat) = Nat.lcm a.natAbs b.natAbs := by rw [Nat.lcm_one_left]
  have hm : max a.natAbs b.natAbs < 2 ^ 13000 := by omega
  have g := PySem.W.mg_run_lcm a t b u (lcm_log ha) (by
      have := lcm_log hm
      have h2 : (max a.natAbs b.natAbs).log2 ≤ (max 1 (max a.natAbs b.natAbs)).log2 := by
        by_cases z : max a.natAbs b.natAbs = 0
        · rw [z]; exact Nat.zero_le _
        · rw [show max 1 (max a.natAbs b.natAbs) = max a.natAbs b.natAbs by omega]; exact Nat.le_refl _
      omega) (by
      rw [e1, Int.natAbs_natCast]
      have h3 : Nat.lcm a.natAbs b.natAbs < 2 ^ 26000 := by
        by_cases z : a.natAbs = 0
        · rw [z, Nat.lcm_zero_left]; exact Nat.two_pow_pos _
        by_cases z2 : b.natAbs = 0
        · rw [z2, Nat.lcm_zero_right]; exact Nat.two_pow_pos _
        refine Nat.lt_of_le_of_lt (Nat.le_of_dvd (Nat.mul_pos (by omega) (by omega)) (Nat.lcm_dvd_mul _ _)) ?_
        have := Nat.mul_lt_mul'' ha hb
        rw [← Nat.pow_add] at this
        exact this
      by_cases z : Nat.lcm a.natAbs b.natAbs = 0
      · rw [z]; decide
      · exact Nat.lt_of_lt_of_le ((Nat.log2_lt z).mpr h3) (by decide))
  rw [e1] at g
  exact PySem.call_function_meets PySem.W.MGF.kind_lcm PySem.W.MGF.plain_lcm PySem.W.MGF.entry_lcm (PySem.W.MGF.args_lcm _ _) g.meets ⟨.int _, H, I.tok _, ⟨_, rfl⟩, q⟩
end RX


set_option Elab.async false
set_option maxRecDepth 100000
/-! rows of numbers: products, what a row taken from another leaves, tables in reduced form -/
namespace VM
open RQ
/-- the sum of the products of the first w -/
def dot (u y : Nat → Rat) : Nat → Rat
  | 0 => 0
  | w + 1 => dot u y w + u w * y w
theorem dot_congr {u u' y y' : Nat → Rat} : ∀ {w : Nat}, (∀ j, j < w → u j = u' j) → (∀ j, j < w → y j = y' j) → dot u y w = dot u' y' w
  | 0, _, _ => rfl
  | w + 1, h, k => by
    unfold dot
    rw [dot_congr (fun j hj => h j (by omega)) (fun j hj => k j (by omega)), h w (by omega), k w (by omega)]
theorem dot_lin {u v y : Nat → Rat} (s c : Rat) : ∀ {w : Nat}, dot (fun j => s * (u j - c * v j)) y w = s * (dot u y w - c * dot v y w)
  | 0 => by unfold dot; grind
  | w + 1 => by
    unfold dot
    rw [dot_lin s c]
    grind
theorem dot_zero {u y : Nat → Rat} : ∀ {w : Nat}, (∀ j, j < w → u j * y j = 0) → dot u y w = 0
  | 0, _ => rfl
  | w + 1, h => by
    unfold dot
    rw [dot_zero fun j hj => h j (by omega), h w (by omega)]
    grind
/-- all but one of the products are 0 -/
theorem dot_one {u y : Nat → Rat} {k : Nat} : ∀ {w : Nat}, k < w → (∀ j, j < w → j ≠ k → u j * y j = 0) → dot u y w = u k * y k
  | 0, h, _ => absurd h (by omega)
  | w + 1, h, z => by
    unfold dot
    by_cases e : k = w
    · subst e
      rw [dot_zero fun j hj => z j (by omega) (by omega)]
      grind
    · rw [dot_one (w := w) (by omega) fun j hj ne => z j (by omega) ne, z w (by omega) (by omega)]
      grind
/-- y is 0 on all rows -/
def Ann (h w : Nat) (A : Nat → Nat → Rat) (y : Nat → Rat) : Prop := ∀ i, i < h → dot (A i) y w = 0
/-- u less so much of v that it is 0 at l, times some number -/
def Less (w l : Nat) (u v u' : Nat → Rat) : Prop := ∃ s : Rat, s ≠ 0 ∧ ∀ j, j < w → u' j = s * (u j - u l / v l * v j)
theorem Less.dot {w l : Nat} {u v u' y : Nat → Rat} (h : Less w l u v u') (hv : dot v y w = 0) : dot u' y w = 0 ↔ dot u y w = 0 := by
  obtain ⟨s, hs, e⟩ := h
  rw [dot_congr e (fun _ _ => rfl), dot_lin, hv]
  constructor
  · intro z; grind
  · intro z; rw [z]; grind
theorem Less.at {w l : Nat} {u v u' : Nat → Rat} (h : Less w l u v u') (hl : l < w) (hv : v l ≠ 0) : u' l = 0 := by
  obtain ⟨s, hs, e⟩ := h
  rw [e l hl]
  grind
theorem Less.zero {w l j : Nat} {u v u' : Nat → Rat} (h : Less w l u v u') (hj : j < w) (h1 : u j = 0) (h2 : v j = 0) : u' j = 0 := by
  obtain ⟨s, hs, e⟩ := h
  rw [e j hj, h1, h2]
  grind
theorem Less.keep {w l j : Nat} {u v u' : Nat → Rat} (h : Less w l u v u') (hj : j < w) (h1 : u j ≠ 0) (h2 : v j = 0) : u' j ≠ 0 := by
  obtain ⟨s, hs, e⟩ := h
  rw [e j hj, h2]
  intro z
  grind
theorem Less.refl {w l : Nat} {u v : Nat → Rat} (h : u l = 0) : Less w l u v u := ⟨1, by decide, fun j _ => by rw [h]; grind⟩
/-- found rows: each with its own lead, 0 ahead of it and at the leads of the earlier ones -/
structure Ech (n w : Nat) (l : Nat → Nat) (v : Nat → Nat → Rat) : Prop where
  lt : ∀ k, k < n → l k < w
  nz : ∀ k, k < n → v k (l k) ≠ 0
  zb : ∀ k, k < n → ∀ j, j < l k → v k j = 0
  zz : ∀ k, k < n → ∀ i, i < k → v k (l i) = 0
theorem Ech.inj {n w : Nat} {l : Nat → Nat} {v : Nat → Nat → Rat} (E : Ech n w l v) {i k : Nat} (hi : i < n) (hk : k < n) (e : l i = l k) : i = k := by
  rcases Nat.lt_trichotomy i k with h | h | h
  · have := E.zz k hk i h
    rw [e] at this
    exact absurd this (E.nz k hk)
  · exact h
  · have := E.zz i hi k h
    rw [← e] at this
    exact absurd this (E.nz i hi)
/-- a table in reduced form -/
structure Rref (r w : Nat) (F : Nat → Nat → Rat) (L : Nat → Nat) : Prop where
  lt : ∀ t, t < r → L t < w
  up : ∀ s t, s < t → t < r → L s < L t
  one : ∀ t, t < r → F t (L t) = 1
  off : ∀ s t, s < r → t < r → s ≠ t → F s (L t) = 0
  zb : ∀ t, t < r → ∀ j, j < L t → F t j = 0
/-! ### sizes -/
/-- bottoms that divide the column's, tops of at most b bits -/
structure VB (M : Nat → Int) (b w : Nat) (u : Nat → Rat) : Prop where
  d : ∀ j, j < w → ((u j).den : Int) ∣ M j
  n : ∀ j, j < w → Bt b (u j).num
structure MB (M : Nat → Int) (m w : Nat) : Prop where
  p : ∀ j, j < w → 0 < M j
  b : ∀ j, j < w → Bt m (M j)
theorem VB.up {M : Nat → Int} {a b w : Nat} {u : Nat → Rat} (h : VB M a w u) (l : a ≤ b) : VB M b w u := ⟨h.d, fun j hj => (h.n j hj).up l⟩
theorem VB.den {M : Nat → Int} {m b w : Nat} {u : Nat → Rat} (h : VB M b w u) (k : MB M m w) {j : Nat} (hj : j < w) : Bt m ((u j).den : Int) := by
  refine (k.b j hj).le ?_
  have := k.p j hj
  exact Nat.le_of_dvd (by omega) (Int.natAbs_dvd_natAbs.mpr (h.d j hj))
theorem dvd_bt {b : Nat} {x y : Int} (h : x ∣ y) (z : y ≠ 0) (k : Bt b y) : Bt b x := k.le (Nat.le_of_dvd (by omega) (Int.natAbs_dvd_natAbs.mpr h))
/-- the factor: its sizes -/
theorem part_bt {M : Nat → Int} {m b1 b2 w l : Nat} {u v : Nat → Rat} (hu : VB M b1 w u) (hv : VB M b2 w v) (k : MB M m w) (hl : l < w) (u0 : u l ≠ 0) (v0 : v l ≠ 0) :
    Bt (b1 + m) (u l / v l).num ∧ Bt (m + b2) ((u l / v l).den : Int) := by
  have e1 := nd (u l)
  have e2 := nd (v l)
  have d1 := den0 (u l)
  have d2 := den0 (v l)
  have n1 : (u l).num ≠ 0 := fun z => u0 (num0.mp z)
  have n2 : (v l).num ≠ 0 := fun z => v0 (num0.mp z)
  have p1 : ((u l).den : Int) ≠ 0 := by have := (u l).den_pos; omega
  have p2 : ((v l).den : Int) ≠ 0 := by have := (v l).den_pos; omega
  have e : (((u l).num * ((v l).den : Int) : Int) : Rat) = u l / v l * (((((u l).den : Int) * (v l).num) : Int) : Rat) := by
    rw [Rat.intCast_mul, Rat.intCast_mul, e1, e2]
    grind
  obtain ⟨q1, q2⟩ := den_dvd (Int.mul_ne_zero p1 n2) e
  refine ⟨dvd_bt q2 (Int.mul_ne_zero n1 p2) ((hu.n l hl).mul (hv.den k hl)), dvd_bt q1 (Int.mul_ne_zero p1 n2) ((hu.den k hl).mul (hv.n l hl))⟩
/-- the tops and bottoms that freeing makes -/
def bt (u v : Nat → Rat) (j : Nat) : Int := ((Nat.lcm (u j).den (v j).den : Nat) : Int)
def tp (u v : Nat → Rat) (l j : Nat) : Int := (u j).num * (bt u v j).fdiv ((u j).den : Int) * ((u l / v l).den : Int) - (v j).num * (bt u v j).fdiv ((v j).den : Int) * (u l / v l).num
theorem bt_pos (u v : Nat → Rat) (j : Nat) : 0 < bt u v j := by
  unfold bt
  have : 0 < Nat.lcm (u j).den (v j).den := Nat.lcm_pos (u j).den_pos (v j).den_pos
  omega
theorem bt_l (u v : Nat → Rat) (j : Nat) : ((u j).den : Int) ∣ bt u v j := by
  unfold bt
  exact Int.natCast_dvd_natCast.mpr (Nat.dvd_lcm_left _ _)
theorem bt_r (u v : Nat → Rat) (j : Nat) : ((v j).den : Int) ∣ bt u v j := by
  unfold bt
  exact Int.natCast_dvd_natCast.mpr (Nat.dvd_lcm_right _ _)
theorem bt_dvd {M : Nat → Int} {m b1 b2 w j : Nat} {u v : Nat → Rat} (hu : VB M b1 w u) (hv : VB M b2 w v) (k : MB M m w) (hj : j < w) : bt u v j ∣ M j := by
  unfold bt
  have h1 := Int.natAbs_dvd_natAbs.mpr (hu.d j hj)
  have h2 := Int.natAbs_dvd_natAbs.mpr (hv.d j hj)
  refine Int.natAbs_dvd_natAbs.mp ?_
  rw [Int.natAbs_natCast] at *
  exact Nat.lcm_dvd h1 h2
theorem tp_eq (u v : Nat → Rat) (l j : Nat) : ((tp u v l j : Int) : Rat) = ((u l / v l).den : Int) * (u j - u l / v l * v j) * ((bt u v j : Int) : Rat) := by
  have c1 := RT.fdiv_of_dvd (by have := (u j).den_pos; omega) (bt_l u v j)
  have c2 := RT.fdiv_of_dvd (by have := (v j).den_pos; omega) (bt_r u v j)
  have e1 := nd (u j)
  have e2 := nd (v j)
  have e3 := nd (u l / v l)
  have r1 : (((bt u v j).fdiv ((u j).den : Int) : Int) : Rat) * (((u j).den : Int) : Rat) = ((bt u v j : Int) : Rat) := by rw [← Rat.intCast_mul, c1]
  have r2 : (((bt u v j).fdiv ((v j).den : Int) : Int) : Rat) * (((v j).den : Int) : Rat) = ((bt u v j : Int) : Rat) := by rw [← Rat.intCast_mul, c2]
  unfold tp
  rw [Rat.intCast_sub, Rat.intCast_mul, Rat.intCast_mul, Rat.intCast_mul, Rat.intCast_mul]
  generalize (((bt u v j).fdiv ((u j).den : Int) : Int) : Rat) = q1 at *
  generalize (((bt u v j).fdiv ((v j).den : Int) : Int) : Rat) = q2 at *
  generalize ((bt u v j : Int) : Rat) = B at *
  generalize u l / v l = c at *
  generalize ((c.den : Int) : Rat) = cd at *
  generalize (((u j).den : Int) : Rat) = ud at *
  generalize (((v j).den : Int) : Rat) = vd at *
  generalize ((u j).num : Rat) = un at *
  generalize ((v j).num : Rat) = vn at *
  generalize (c.num : Rat) = cn at *
  subst e1 e2 e3
  grind
theorem quot_bt {m : Nat} {x y : Int} (h : y ∣ x) (hy : y ≠ 0) (k : Bt m x) : Bt m (x.fdiv y) := by
  have e := RT.fdiv_of_dvd hy h
  refine k.le ?_
  rw [← congrArg Int.natAbs e, Int.natAbs_mul]
  exact Nat.le_mul_of_pos_right _ (by omega)
theorem tp_bt {M : Nat → Int} {m b1 b2 w l j : Nat} {u v : Nat → Rat} (hu : VB M b1 w u) (hv : VB M b2 w v) (k : MB M m w) (hl : l < w) (hj : j < w) (u0 : u l ≠ 0) (v0 : v l ≠ 0) :
    Bt m (bt u v j) ∧ Bt (b1 + m) ((u j).num * (bt u v j).fdiv ((u j).den : Int)) ∧ Bt (b2 + m) ((v j).num * (bt u v j).fdiv ((v j).den : Int)) ∧ Bt (b1 + b2 + 2 * m + 1) (tp u v l j) := by
  obtain ⟨c1, c2⟩ := part_bt hu hv k hl u0 v0
  have B : Bt m (bt u v j) := dvd_bt (bt_dvd hu hv k hj) (by have := k.p j hj; omega) (k.b j hj)
  have q1 := quot_bt (bt_l u v j) (by have := (u j).den_pos; omega) B
  have q2 := quot_bt (bt_r u v j) (by have := (v j).den_pos; omega) B
  have t1 := (hu.n j hj).mul q1
  have t2 := (hv.n j hj).mul q2
  refine ⟨B, t1, t2, ?_⟩
  exact ((t1.mul c2).up (by omega)).sub ((t2.mul c1).up (by omega))
end VM

set_option Elab.async false
set_option maxRecDepth 100000
namespace VM
open RQ
/-- the greatest factor of the first k -/
def gf (z : Nat → Int) : Nat → Nat
  | 0 => 0
  | k + 1 => Nat.gcd (gf z k) (z k).natAbs
theorem gf_dvd {z : Nat → Int} : ∀ {k j : Nat}, j < k → ((gf z k : Nat) : Int) ∣ z j
  | 0, _, h => absurd h (by omega)
  | k + 1, j, h => by
    unfold gf
    by_cases e : j = k
    · subst e
      exact Int.natAbs_dvd_natAbs.mp (by rw [Int.natAbs_natCast]; exact Nat.gcd_dvd_right _ _)
    · have := gf_dvd (z := z) (k := k) (j := j) (by omega)
      exact Int.dvd_trans (Int.natCast_dvd_natCast.mpr (Nat.gcd_dvd_left _ _)) this
theorem gf_pos {z : Nat → Int} : ∀ {k j : Nat}, j < k → z j ≠ 0 → 0 < gf z k
  | 0, _, h, _ => absurd h (by omega)
  | k + 1, j, h, n => by
    unfold gf
    by_cases e : j = k
    · subst e
      exact Nat.gcd_pos_of_pos_right _ (by omega)
    · exact Nat.gcd_pos_of_pos_left _ (gf_pos (z := z) (k := k) (j := j) (by omega) n)
def bz (u v : Nat → Rat) (l j : Nat) : Int := if tp u v l j = 0 then 0 else bt u v j
theorem sub_cast (a b : Int) : ((a - b : Int) : Rat) = (a : Rat) - (b : Rat) := Rat.intCast_sub a b
/-- what freeing makes of each place -/
theorem freed {M : Nat → Int} {m b1 b2 w l : Nat} {u v : Nat → Rat} (hu : VB M b1 w u) (hv : VB M b2 w v) (k : MB M m w) (hl : l < w) (u0 : u l ≠ 0) (v0 : v l ≠ 0) :
    ∃ u' : Nat → Rat, Less w l u v u' ∧ VB M (b1 + b2 + 2 * m + 1) w u' ∧ ∀ j, j < w →
      (tp u v l j = 0 → u' j = 0) ∧
      (tp u v l j ≠ 0 → ((gf (tp u v l) w : Nat) : Int) ≠ 0 ∧ ((gf (bz u v l) w : Nat) : Int) ≠ 0 ∧ (bt u v j).fdiv ((gf (bz u v l) w : Nat) : Int) ≠ 0 ∧
        RT.top ((tp u v l j).fdiv ((gf (tp u v l) w : Nat) : Int)) ((bt u v j).fdiv ((gf (bz u v l) w : Nat) : Int)) = (u' j).num ∧
        RT.bot ((tp u v l j).fdiv ((gf (tp u v l) w : Nat) : Int)) ((bt u v j).fdiv ((gf (bz u v l) w : Nat) : Int)) = ((u' j).den : Int)) := by
  have cd := den0 (u l / v l)
  by_cases all : ∀ j, j < w → tp u v l j = 0
  · refine ⟨fun _ => 0, ⟨1, by decide, fun j hj => ?_⟩, ⟨fun j hj => ⟨M j, by show M j = 1 * M j; rw [Int.one_mul]⟩, fun j hj => ?_⟩, fun j hj => ⟨fun _ => rfl, fun n => absurd (all j hj) n⟩⟩
    · have e := tp_eq u v l j
      rw [all j hj] at e
      have b0 := i0 (show bt u v j ≠ 0 by have := bt_pos u v j; omega)
      have e0 : ((0 : Int) : Rat) = 0 := rfl
      rw [e0] at e
      grind
    · show Bt _ (0 : Rat).num
      exact Nat.two_pow_pos _
  · obtain ⟨i, hi, hn⟩ : ∃ i, i < w ∧ tp u v l i ≠ 0 := by
      refine Classical.byContradiction fun no => all fun j hj => Classical.byContradiction fun n => no ⟨j, hj, n⟩
    have A0 := gf_pos (z := tp u v l) hi hn
    have bn : bz u v l i ≠ 0 := by unfold bz; rw [if_neg hn]; have := bt_pos u v i; omega
    have B0 := gf_pos (z := bz u v l) hi bn
    generalize hA : gf (tp u v l) w = A at *
    generalize hB : gf (bz u v l) w = B at *
    have A1 : ((A : Nat) : Int) ≠ 0 := by omega
    have B1 : ((B : Nat) : Int) ≠ 0 := by omega
    have A2 := i0 A1
    have B2 := i0 B1
    have s0 : ((B : Int) : Rat) / ((A : Int) : Rat) * (((u l / v l).den : Int) : Rat) ≠ 0 := by
      intro z; grind
    have val : ∀ j, j < w → tp u v l j ≠ 0 → ((B : Nat) : Int) ∣ bt u v j ∧ (bt u v j).fdiv ((B : Nat) : Int) ≠ 0 ∧
        (((tp u v l j).fdiv ((A : Nat) : Int) : Int) : Rat) = ((B : Int) : Rat) / ((A : Int) : Rat) * (((u l / v l).den : Int) : Rat) * (u j - u l / v l * v j) * (((bt u v j).fdiv ((B : Nat) : Int) : Int) : Rat) := fun j hj n => by
      have dA : ((A : Nat) : Int) ∣ tp u v l j := by rw [← hA]; exact gf_dvd hj
      have dB : ((B : Nat) : Int) ∣ bt u v j := by
        have := gf_dvd (z := bz u v l) hj
        rw [hB] at this
        unfold bz at this
        rw [if_neg n] at this
        exact this
      have f1 := RT.fdiv_of_dvd A1 dA
      have f2 := RT.fdiv_of_dvd B1 dB
      have bp := bt_pos u v j
      have ne : (bt u v j).fdiv ((B : Nat) : Int) ≠ 0 := fun z => by rw [z, Int.zero_mul] at f2; omega
      refine ⟨dB, ne, ?_⟩
      have e := tp_eq u v l j
      have g1 : (((tp u v l j).fdiv ((A : Nat) : Int) : Int) : Rat) * ((A : Int) : Rat) = ((tp u v l j : Int) : Rat) := by rw [← Rat.intCast_mul, f1]
      have g2 : (((bt u v j).fdiv ((B : Nat) : Int) : Int) : Rat) * ((B : Int) : Rat) = ((bt u v j : Int) : Rat) := by rw [← Rat.intCast_mul, f2]
      rw [e] at g1
      grind
    refine ⟨fun j => ((B : Int) : Rat) / ((A : Int) : Rat) * (((u l / v l).den : Int) : Rat) * (u j - u l / v l * v j), ⟨_, s0, fun _ _ => rfl⟩, ⟨fun j hj => ?_, fun j hj => ?_⟩, fun j hj => ⟨fun z => ?_, fun n => ?_⟩⟩
    · by_cases n : tp u v l j = 0
      · have e := tp_eq u v l j
        rw [n] at e
        have b0 := i0 (show bt u v j ≠ 0 by have := bt_pos u v j; omega)
        have e0 : ((0 : Int) : Rat) = 0 := rfl
        rw [e0] at e
        have x0 : u j - u l / v l * v j = 0 := by grind
        show ((((B : Int) : Rat) / ((A : Int) : Rat) * (((u l / v l).den : Int) : Rat) * (u j - u l / v l * v j)).den : Int) ∣ M j
        rw [x0, Rat.mul_zero]
        exact ⟨M j, by show M j = 1 * M j; rw [Int.one_mul]⟩
      · obtain ⟨dB, ne, e⟩ := val j hj n
        have d1 := (den_dvd ne e).1
        refine Int.dvd_trans d1 (Int.dvd_trans ?_ (bt_dvd hu hv k hj))
        exact ⟨((B : Nat) : Int), (RT.fdiv_of_dvd B1 dB).symm⟩
    · by_cases n : tp u v l j = 0
      · have e := tp_eq u v l j
        rw [n] at e
        have b0 := i0 (show bt u v j ≠ 0 by have := bt_pos u v j; omega)
        have e0 : ((0 : Int) : Rat) = 0 := rfl
        rw [e0] at e
        have x0 : u j - u l / v l * v j = 0 := by grind
        show Bt _ (((B : Int) : Rat) / ((A : Int) : Rat) * (((u l / v l).den : Int) : Rat) * (u j - u l / v l * v j)).num
        rw [x0, Rat.mul_zero]
        exact Nat.two_pow_pos _
      · obtain ⟨dB, ne, e⟩ := val j hj n
        have d1 := (den_dvd ne e).2
        have dA : ((A : Nat) : Int) ∣ tp u v l j := by rw [← hA]; exact gf_dvd hj
        have f1 := RT.fdiv_of_dvd A1 dA
        have z1 : (tp u v l j).fdiv ((A : Nat) : Int) ≠ 0 := fun z => by rw [z, Int.zero_mul] at f1; exact n f1.symm
        exact dvd_bt d1 z1 (quot_bt dA A1 (tp_bt hu hv k hl hj u0 v0).2.2.2)
    · have e := tp_eq u v l j
      rw [z] at e
      have b0 := i0 (show bt u v j ≠ 0 by have := bt_pos u v j; omega)
      have e0 : ((0 : Int) : Rat) = 0 := rfl
      rw [e0] at e
      have x0 : u j - u l / v l * v j = 0 := by grind
      show ((B : Int) : Rat) / ((A : Int) : Rat) * (((u l / v l).den : Int) : Rat) * (u j - u l / v l * v j) = 0
      rw [x0, Rat.mul_zero]
    · obtain ⟨dB, ne, e⟩ := val j hj n
      obtain ⟨q1, q2⟩ := low ne e
      exact ⟨A1, B1, ne, q1, q2⟩
end VM

set_option Elab.async false
set_option maxRecDepth 100000
namespace VM
open RQ
/-- bits behind k steps -/
def bK (m e : Nat) : Nat → Nat
  | 0 => e - (2 * m + 1)
  | k + 1 => bK m e k + bK m e k + 2 * m + 1
theorem bK_le {m e : Nat} (h : 2 * m + 1 ≤ e) : ∀ k : Nat, bK m e k + (2 * m + 1) = 2 ^ k * e
  | 0 => by unfold bK; omega
  | k + 1 => by
    have := bK_le h k
    unfold bK
    rw [Nat.pow_succ, Nat.mul_assoc, Nat.mul_comm 2 e, ← Nat.mul_assoc, ← this]
    omega
theorem bK_mono {m e : Nat} {i k : Nat} (h : i ≤ k) : bK m e i ≤ bK m e k := by
  induction h with
  | refl => exact Nat.le_refl _
  | @step k _ ih =>
    show bK m e i ≤ bK m e k + bK m e k + 2 * m + 1
    omega
theorem bK_max {m e k R N : Nat} (h : 2 * m + 1 ≤ e) (hk : k ≤ R) (hN : 2 ^ R * e ≤ N) : bK m e k ≤ N := by
  have h1 := bK_le h R
  have h2 := bK_mono (m := m) (e := e) hk
  omega
/-- unlike numbers below w are at most w -/
theorem pigeon : ∀ {w : Nat} {xs : List Nat}, xs.Nodup → (∀ x ∈ xs, x < w) → xs.length ≤ w
  | 0, xs, _, h => by
    cases xs with
    | nil => exact Nat.le_refl _
    | cons x xs => exact absurd (h x List.mem_cons_self) (by omega)
  | w + 1, xs, nd, h => by
    have nd' : (xs.erase w).Nodup := nd.erase w
    have h' : ∀ x ∈ xs.erase w, x < w := fun x hx => by
      have h1 := h x (List.mem_of_mem_erase hx)
      have h2 : x ≠ w := fun e => by
        rw [e] at hx
        exact (List.Nodup.not_mem_erase nd) hx
      omega
    have ih := pigeon nd' h'
    have := List.length_erase_of_mem (a := w) (l := xs)
    by_cases hm : w ∈ xs
    · have := List.length_erase_of_mem hm
      omega
    · rw [List.erase_of_not_mem hm] at ih
      omega
theorem Ech.le {n w : Nat} {l : Nat → Nat} {v : Nat → Nat → Rat} (E : Ech n w l v) : n ≤ w := by
  have nd : ((List.range n).map l).Nodup := by
    rw [List.nodup_iff_pairwise_ne, List.pairwise_map]
    refine List.Pairwise.imp_of_mem ?_ (List.nodup_iff_pairwise_ne.mp List.nodup_range)
    intro a b ha hb ne e
    exact ne (E.inj (List.mem_range.mp ha) (List.mem_range.mp hb) e)
  have := pigeon nd fun x hx => by
    obtain ⟨k, hk, rfl⟩ := List.mem_map.mp hx
    exact E.lt k (List.mem_range.mp hk)
  rw [List.length_map, List.length_range] at this
  exact this
/-- one more at the end -/
def ex {α : Type} (f : Nat → α) (i : Nat) (x : α) : Nat → α := fun j => if j = i then x else f j
theorem ex_same {α : Type} (f : Nat → α) (i : Nat) (x : α) : ex f i x i = x := if_pos rfl
theorem ex_lt {α : Type} (f : Nat → α) {i j : Nat} (x : α) (h : j < i) : ex f i x j = f j := if_neg (by omega)
theorem Ech.more {n w k : Nat} {l : Nat → Nat} {v : Nat → Nat → Rat} {u : Nat → Rat} (E : Ech n w l v) (hk : k < w) (nz : u k ≠ 0) (zb : ∀ j, j < k → u j = 0) (zz : ∀ i, i < n → u (l i) = 0) : Ech (n + 1) w (ex l n k) (ex v n u) where
  lt := fun j hj => by
    by_cases e : j = n
    · subst e; rw [ex_same]; exact hk
    · rw [ex_lt l k (by omega)]; exact E.lt j (by omega)
  nz := fun j hj => by
    by_cases e : j = n
    · subst e; rw [ex_same, ex_same]; exact nz
    · rw [ex_lt l k (by omega), ex_lt v u (by omega)]; exact E.nz j (by omega)
  zb := fun j hj i hi => by
    by_cases e : j = n
    · subst e; rw [ex_same] at hi ⊢; exact zb i hi
    · rw [ex_lt l k (by omega)] at hi; rw [ex_lt v u (by omega)]; exact E.zb j (by omega) i hi
  zz := fun j hj i hi => by
    by_cases e : j = n
    · subst e; rw [ex_same, ex_lt l k hi]; exact zz i hi
    · rw [ex_lt v u (by omega), ex_lt l k (by omega)]; exact E.zz j (by omega) i hi
theorem ann_succ {n w : Nat} {v : Nat → Nat → Rat} {u y : Nat → Rat} : Ann (n + 1) w (ex v n u) y ↔ Ann n w v y ∧ dot u y w = 0 := by
  constructor
  · intro h
    refine ⟨fun i hi => ?_, ?_⟩
    · have := h i (by omega)
      rw [ex_lt v u hi] at this
      exact this
    · have := h n (by omega)
      rw [ex_same] at this
      exact this
  · intro h i hi
    by_cases e : i = n
    · subst e; rw [ex_same]; exact h.2
    · rw [ex_lt v u (by omega)]; exact h.1 i (by omega)
theorem ann_more {h w : Nat} {U : Nat → Nat → Rat} {y : Nat → Rat} : Ann (h + 1) w U y ↔ Ann h w U y ∧ dot (U h) y w = 0 := by
  constructor
  · intro z
    exact ⟨fun i hi => z i (by omega), z h (by omega)⟩
  · intro z i hi
    by_cases e : i = h
    · subst e; exact z.2
    · exact z.1 i (by omega)
/-! ### from the last row up -/
/-- rows that are done from t on: each with its lead, 0 ahead of it and at the leads behind -/
structure Done (t n w : Nat) (L : Nat → Nat) (z : Nat → Nat → Rat) : Prop where
  nz : ∀ k, t ≤ k → k < n → z k (L k) ≠ 0
  zb : ∀ k, t ≤ k → k < n → ∀ j, j < L k → z k j = 0
  zz : ∀ k, t ≤ k → k < n → ∀ i, k < i → i < n → z k (L i) = 0
theorem Done.rref {n w : Nat} {L : Nat → Nat} {z : Nat → Nat → Rat} (D : Done 0 n w L z) (lt : ∀ k, k < n → L k < w) (up : ∀ s t, s < t → t < n → L s < L t) : Rref n w (fun t j => z t j / z t (L t)) L where
  lt := lt
  up := up
  one := fun t ht => by
    have := D.nz t (Nat.zero_le _) ht
    grind
  off := fun s t hs ht ne => by
    have h0 : z s (L t) = 0 := by
      rcases Nat.lt_or_ge s t with h | h
      · exact D.zz s (Nat.zero_le _) hs t h ht
      · exact D.zb s (Nat.zero_le _) hs _ (up t s (by omega) hs)
    show z s (L t) / z s (L s) = 0
    rw [h0]
    grind
  zb := fun t ht j hj => by
    show z t j / z t (L t) = 0
    rw [D.zb t (Nat.zero_le _) ht j hj]
    grind
theorem dot_div {u y : Nat → Rat} {c : Rat} (hc : c ≠ 0) {w : Nat} : dot (fun j => u j / c) y w = 0 ↔ dot u y w = 0 := by
  have e : dot (fun j => u j / c) y w = dot (fun j => (1 / c) * (u j - 0 * (fun _ => (0 : Rat)) j)) y w := dot_congr (fun j _ => by grind) fun _ _ => rfl
  rw [e, dot_lin]
  constructor
  · intro h; grind
  · intro h; rw [h]; grind
end VM

set_option Elab.async false
set_option maxRecDepth 100000
namespace VM
open RQ
/-- leads sorted -/
theorem sorted_of {n : Nat} {l : Nat → Nat} (inj : ∀ i k, i < n → k < n → l i = l k → i = k) {ys : List Int} (hp : ys.Perm ((List.range n).map fun k => ((l k : Nat) : Int))) (hs : ys.Pairwise (· ≤ ·)) :
    ∃ L κ : Nat → Nat, ys = (List.range n).map (fun t => ((L t : Nat) : Int)) ∧ (∀ t, t < n → κ t < n ∧ l (κ t) = L t) ∧ (∀ s t, s < t → t < n → L s < L t) ∧ ∀ k, k < n → ∃ t, t < n ∧ κ t = k := by
  have len : ys.length = n := by rw [hp.length_eq, List.length_map, List.length_range]
  have nd : ys.Nodup := by
    refine hp.nodup_iff.mpr ?_
    rw [List.nodup_iff_pairwise_ne, List.pairwise_map]
    refine List.Pairwise.imp_of_mem ?_ (List.nodup_iff_pairwise_ne.mp List.nodup_range)
    intro a b ha hb ne e
    exact ne (inj a b (List.mem_range.mp ha) (List.mem_range.mp hb) (by omega))
  have at_ : ∀ t, t < n → ∃ k, k < n ∧ ys.getD t 0 = ((l k : Nat) : Int) := fun t ht => by
    have hm : ys.getD t 0 ∈ ys := by
      rw [List.getD_eq_getElem?_getD, List.getElem?_eq_getElem (by omega)]
      exact List.getElem_mem _
    obtain ⟨k, hk, e⟩ := List.mem_map.mp (hp.mem_iff.mp hm)
    exact ⟨k, List.mem_range.mp hk, e.symm⟩
  have ch : ∀ t, ∃ k, t < n → k < n ∧ ys.getD t 0 = ((l k : Nat) : Int) := fun t => by
    by_cases ht : t < n
    · obtain ⟨k, hk⟩ := at_ t ht
      exact ⟨k, fun _ => hk⟩
    · exact ⟨0, fun h => absurd h ht⟩
  obtain ⟨κ, hκ⟩ := Classical.axiomOfChoice ch
  have gL : ∀ t, t < n → ys[t]? = some ((l (κ t) : Nat) : Int) := fun t ht => by
    have := (hκ t ht).2
    rw [List.getD_eq_getElem?_getD, List.getElem?_eq_getElem (by omega)] at this
    rw [List.getElem?_eq_getElem (by omega)]
    exact congrArg some this
  refine ⟨fun t => l (κ t), κ, ?_, fun t ht => ⟨(hκ t ht).1, rfl⟩, fun s t hst ht => ?_, fun k hk => ?_⟩
  · refine List.ext_getElem? fun t => ?_
    by_cases ht : t < n
    · rw [gL t ht, List.getElem?_map, List.getElem?_range ht]
      rfl
    · rw [List.getElem?_eq_none (by omega), List.getElem?_eq_none (by rw [List.length_map, List.length_range]; omega)]
  · have h1 := List.pairwise_iff_getElem.mp hs s t (by omega) (by omega) hst
    have h2 := List.pairwise_iff_getElem.mp (List.nodup_iff_pairwise_ne.mp nd) s t (by omega) (by omega) hst
    have e1 := (List.getElem?_eq_some_iff.mp (gL s (by omega))).2
    have e2 := (List.getElem?_eq_some_iff.mp (gL t ht)).2
    rw [e1, e2] at h1 h2
    show l (κ s) < l (κ t)
    omega
  · have hm : ((l k : Nat) : Int) ∈ ys := hp.mem_iff.mpr (List.mem_map.mpr ⟨k, List.mem_range.mpr hk, rfl⟩)
    obtain ⟨t, ht, e⟩ := List.mem_iff_getElem.mp hm
    have htn : t < n := by omega
    have e2 := (List.getElem?_eq_some_iff.mp (gL t htn)).2
    refine ⟨t, htn, inj _ _ (hκ t htn).1 hk ?_⟩
    rw [e] at e2
    omega
/-- done rows turned about are a table in reduced form -/
theorem Ech.rref {n w : Nat} {L : Nat → Nat} {z : Nat → Nat → Rat} (E : Ech n w (fun j => L (n - 1 - j)) z) (up : ∀ s t, s < t → t < n → L s < L t) :
    Rref n w (fun t j => z (n - 1 - t) j / z (n - 1 - t) (L t)) L := by
  have back : ∀ t, t < n → n - 1 - (n - 1 - t) = t := fun t h => by omega
  have nz : ∀ t, t < n → z (n - 1 - t) (L t) ≠ 0 := fun t ht => by
    have := E.nz (n - 1 - t) (by omega)
    simp only [back t ht] at this
    exact this
  have zb : ∀ t, t < n → ∀ j, j < L t → z (n - 1 - t) j = 0 := fun t ht j hj => by
    refine E.zb (n - 1 - t) (by omega) j ?_
    simp only [back t ht]
    exact hj
  refine ⟨fun t ht => ?_, up, fun t ht => ?_, fun s t hs ht ne => ?_, fun t ht j hj => ?_⟩
  · have := E.lt (n - 1 - t) (by omega)
    simp only [back t ht] at this
    exact this
  · have := nz t ht
    grind
  · have h0 : z (n - 1 - s) (L t) = 0 := by
      rcases Nat.lt_or_ge s t with h | h
      · have := E.zz (n - 1 - s) (by omega) (n - 1 - t) (by omega)
        simp only [back t ht] at this
        exact this
      · exact zb s hs _ (up t s (by omega) hs)
    show z (n - 1 - s) (L t) / z (n - 1 - s) (L s) = 0
    rw [h0]
    grind
  · show z (n - 1 - t) j / z (n - 1 - t) (L t) = 0
    rw [zb t ht j hj]
    grind
/-- a place by another one of the same row: sizes -/
theorem div_bt {M : Nat → Int} {m b w l j : Nat} {u : Nat → Rat} (hu : VB M b w u) (k : MB M m w) (hl : l < w) (hj : j < w) (u0 : u l ≠ 0) : Bt (b + m) (u j / u l).num ∧ Bt (b + m) ((u j / u l).den : Int) := by
  have e1 := nd (u j)
  have e2 := nd (u l)
  have d1 := den0 (u j)
  have d2 := den0 (u l)
  have n2 : (u l).num ≠ 0 := fun z => u0 (num0.mp z)
  have p1 : ((u j).den : Int) ≠ 0 := by have := (u j).den_pos; omega
  have p2 : ((u l).den : Int) ≠ 0 := by have := (u l).den_pos; omega
  have e : (((u j).num * ((u l).den : Int) : Int) : Rat) = u j / u l * (((((u j).den : Int) * (u l).num) : Int) : Rat) := by
    rw [Rat.intCast_mul, Rat.intCast_mul, e1, e2]
    grind
  obtain ⟨q1, q2⟩ := den_dvd (Int.mul_ne_zero p1 n2) e
  refine ⟨?_, dvd_bt q1 (Int.mul_ne_zero p1 n2) (((hu.den k hj).mul (hu.n l hl)).up (by omega))⟩
  by_cases z : (u j).num = 0
  · have : u j / u l = 0 := by rw [num0.mp z]; grind
    rw [this]
    exact Nat.two_pow_pos _
  · exact dvd_bt q2 (Int.mul_ne_zero z p2) ((hu.n j hj).mul (hu.den k hl))
end VM

set_option Elab.async false
set_option maxRecDepth 100000
namespace VM
open RQ
/-- all but two of the products are 0 -/
theorem dot_two {u y : Nat → Rat} {a b : Nat} (ne : a ≠ b) : ∀ {w : Nat}, a < w → b < w → (∀ j, j < w → j ≠ a → j ≠ b → u j * y j = 0) → dot u y w = u a * y a + u b * y b
  | 0, h, _, _ => absurd h (by omega)
  | w + 1, h1, h2, z => by
    unfold dot
    by_cases ea : a = w
    · subst ea
      rw [dot_one (k := b) (by omega) fun j hj n => z j (by omega) (by omega) n]
      grind
    · by_cases eb : b = w
      · subst eb
        rw [dot_one (k := a) (by omega) fun j hj n => z j (by omega) n (by omega)]
      · rw [dot_two ne (w := w) (by omega) (by omega) fun j hj n1 n2 => z j (by omega) n1 n2, z w (by omega) (fun e => ea e.symm) (fun e => eb e.symm)]
        grind
/-- a column without a lead: what is 0 on all rows, 1 there, and else not 0 at leads of lower columns alone -/
theorem free_col {r w : Nat} {F : Nat → Nat → Rat} {L : Nat → Nat} (E : Rref r w F L) {q : Nat} (hq : q < w) (no : ∀ t, t < r → L t ≠ q) :
    ∃ y : Nat → Rat, y q = 1 ∧ (∀ j, q < j → y j = 0) ∧ (∀ t, t < r → y (L t) = - F t q) ∧ Ann r w F y := by
  have inj : ∀ s t, s < r → t < r → L s = L t → s = t := fun s t hs ht e => by
    rcases Nat.lt_trichotomy s t with h | h | h
    · have := E.up s t h ht; omega
    · exact h
    · have := E.up t s h hs; omega
  have ch : ∀ j, ∃ v : Rat, (j = q → v = 1) ∧ (∀ t, t < r → L t = j → v = - F t q) ∧ (j ≠ q → (∀ t, t < r → L t ≠ j) → v = 0) := fun j => by
    by_cases e : j = q
    · exact ⟨1, fun _ => rfl, fun t ht h => absurd (h.trans e) (no t ht), fun n => absurd e n⟩
    · by_cases h : ∃ t, t < r ∧ L t = j
      · obtain ⟨t, ht, et⟩ := h
        exact ⟨- F t q, fun z => absurd z e, fun s hs es => by rw [inj s t hs ht (by omega)], fun _ z => absurd et (z t ht)⟩
      · exact ⟨0, fun z => absurd z e, fun t ht et => absurd ⟨t, ht, et⟩ h, fun _ _ => rfl⟩
  obtain ⟨y, hy⟩ := Classical.axiomOfChoice ch
  have yL : ∀ t, t < r → y (L t) = - F t q := fun t ht => (hy (L t)).2.1 t ht rfl
  have yq : y q = 1 := (hy q).1 rfl
  refine ⟨y, yq, fun j hj => ?_, yL, fun s hs => ?_⟩
  · by_cases h : ∃ t, t < r ∧ L t = j
    · obtain ⟨t, ht, et⟩ := h
      rw [← et, yL t ht, E.zb t ht q (by omega)]
      grind
    · exact (hy j).2.2 (by omega) fun t ht et => h ⟨t, ht, et⟩
  · rw [dot_two (a := q) (b := L s) (fun e => no s hs e.symm) hq (E.lt s hs) fun j hj n1 n2 => ?_]
    · rw [yq, yL s hs, E.one s hs]
      grind
    · by_cases h : ∃ t, t < r ∧ L t = j
      · obtain ⟨t, ht, et⟩ := h
        have : s ≠ t := fun e => n2 (by rw [← et, e])
        rw [← et, E.off s t hs ht this]
        grind
      · rw [(hy j).2.2 n1 fun t ht et => h ⟨t, ht, et⟩]
        grind
/-- the rows beside one another, with what is wanted -/
def aug (r : Nat) (U : Nat → Nat → Rat) (b : Nat → Rat) (i j : Nat) : Rat := if j < r then U j i else b i
def Indep (r w : Nat) (U : Nat → Nat → Rat) : Prop := ∀ y : Nat → Rat, (∀ i, i < w → dot (fun k => U k i) y r = 0) → ∀ k, k < r → y k = 0
def Solves (r w : Nat) (U : Nat → Nat → Rat) (b x : Nat → Rat) : Prop := ∀ i, i < w → dot (fun k => U k i) x r = b i
theorem dot_aug {r i : Nat} {U : Nat → Nat → Rat} {b y : Nat → Rat} : dot (aug r U b i) y (r + 1) = dot (fun k => U k i) y r + b i * y r := by
  show dot (aug r U b i) y r + aug r U b i r * y r = _
  rw [dot_congr (u := aug r U b i) (u' := fun k => U k i) (y' := y) (fun j hj => by unfold aug; rw [if_pos hj]) fun _ _ => rfl]
  unfold aug
  rw [if_neg (Nat.lt_irrefl r)]
section
variable {c r w : Nat} {F U : Nat → Nat → Rat} {L : Nat → Nat} {b : Nat → Rat}
theorem lead_all (E : Rref c (r + 1) F L) (an : ∀ y, Ann c (r + 1) F y ↔ Ann w (r + 1) (aug r U b) y) (ind : Indep r w U) {q : Nat} (hq : q < r) : ∃ t, t < c ∧ L t = q := by
  refine Classical.byContradiction fun no => ?_
  obtain ⟨y, y1, y2, _, y4⟩ := free_col E (q := q) (by omega) fun t ht e => no ⟨t, ht, e⟩
  have := ind y (fun i hi => by
    have h := (an y).mp y4 i hi
    rw [dot_aug, y2 r hq] at h
    grind) q hq
  rw [y1] at this
  exact absurd this (by decide)
theorem lead_id (E : Rref c (r + 1) F L) (all : ∀ q, q < r → ∃ t, t < c ∧ L t = q) : ∀ t, t < r → t < c ∧ L t = t := by
  have ge : ∀ t, t < c → t ≤ L t := fun t => by
    induction t with
    | zero => intro _; exact Nat.zero_le _
    | succ t ih =>
      intro h
      have := ih (by omega)
      have := E.up t (t + 1) (by omega) h
      omega
  intro t
  induction t using Nat.strongRecOn with
  | ind t ih =>
    intro ht
    obtain ⟨s, hs, e⟩ := all t ht
    have h1 := ge s hs
    by_cases lt : s < t
    · have := (ih s lt (by omega)).2
      omega
    · have : s = t := by omega
      subst this
      exact ⟨hs, e⟩
/-- the rows of what reduced gives: 1 at their place, 0 at the others ahead of the last -/
theorem solve_row (E : Rref c (r + 1) F L) (id : ∀ t, t < r → t < c ∧ L t = t) {s : Nat} (hs : s < r) (x : Nat → Rat) : dot (F s) (fun j => if j < r then x j else -1) (r + 1) = x s - F s r := by
  have hsc := (id s hs).1
  have e1 : F s s = 1 := by
    have := E.one s hsc
    rw [(id s hs).2] at this
    exact this
  rw [dot_two (a := s) (b := r) (by omega) (by omega) (by omega) fun j hj n1 n2 => ?_]
  · simp only [if_pos hs, if_neg (Nat.lt_irrefl r), e1]
    grind
  · have hj2 : j < r := by omega
    have := E.off s j hsc (id j hj2).1 (fun e => n1 e.symm)
    rw [(id j hj2).2] at this
    rw [this]
    grind
theorem solve_yes (E : Rref c (r + 1) F L) (an : ∀ y, Ann c (r + 1) F y ↔ Ann w (r + 1) (aug r U b) y) (ind : Indep r w U) {x : Nat → Rat} (hx : Solves r w U b x) : c = r ∧ ∀ t, t < r → F t r = x t := by
  have id := lead_id E fun q hq => lead_all E an ind hq
  have A : Ann c (r + 1) F (fun j => if j < r then x j else -1) := (an _).mpr fun i hi => by
    rw [dot_aug, dot_congr (u' := fun k => U k i) (y' := x) (fun _ _ => rfl) (fun j hj => if_pos hj), hx i hi, if_neg (Nat.lt_irrefl r)]
    grind
  have ge : r ≤ c := by
    by_cases z : r = 0
    · omega
    · have := (id (r - 1) (by omega)).1
      omega
  refine ⟨?_, fun t ht => ?_⟩
  · refine Nat.le_antisymm (Nat.le_of_not_lt fun lt => ?_) ge
    have hl : L r = r := by
      have h1 := E.lt r lt
      by_cases z : r = 0
      · omega
      · have h2 := E.up (r - 1) r (by omega) lt
        rw [(id (r - 1) (by omega)).2] at h2
        omega
    have h := A r lt
    rw [dot_one (k := r) (by omega) fun j hj n => ?_] at h
    · have e1 := E.one r lt
      rw [hl] at e1
      simp only [if_neg (Nat.lt_irrefl r), e1] at h
      grind
    · rw [E.zb r lt j (by omega)]
      grind
  · have h := A t (id t ht).1
    rw [solve_row E id ht] at h
    grind
theorem solve_no (E : Rref c (r + 1) F L) (an : ∀ y, Ann c (r + 1) F y ↔ Ann w (r + 1) (aug r U b) y) (ind : Indep r w U) (no : ∀ x, ¬ Solves r w U b x) : r < c := by
  have id := lead_id E fun q hq => lead_all E an ind hq
  have ge : r ≤ c := by
    by_cases z : r = 0
    · omega
    · have := (id (r - 1) (by omega)).1
      omega
  refine Nat.lt_of_le_of_ne ge fun e => no (fun t => F t r) fun i hi => ?_
  subst e
  have A : Ann r (r + 1) F (fun j => if j < r then F j r else -1) := fun s hs => by
    rw [solve_row (x := fun j => F j r) E id hs]
    grind
  have h := (an _).mp A i hi
  rw [dot_aug, dot_congr (u' := fun k => U k i) (y' := fun t => F t r) (fun _ _ => rfl) (fun j hj => if_pos hj), if_neg (Nat.lt_irrefl r)] at h
  grind
end
end VM

set_option Elab.async false
set_option maxRecDepth 100000
namespace VM
open RQ
/-- a number over M, its top of at most T bits -/
def Ov (M : Int) (T : Nat) (q : Rat) : Prop := ∃ z : Int, (z : Rat) = q * (M : Rat) ∧ Bt T z
theorem Ov.up {M : Int} {S T : Nat} {q : Rat} (h : Ov M S q) (l : S ≤ T) : Ov M T q := let ⟨z, e, b⟩ := h; ⟨z, e, b.up l⟩
theorem bt0 (T : Nat) : Bt T 0 := Nat.two_pow_pos _
theorem Ov.den {M : Int} {T : Nat} {q : Rat} (h : Ov M T q) (m : M ≠ 0) : (q.den : Int) ∣ M ∧ Bt T q.num := by
  obtain ⟨z, e, b⟩ := h
  obtain ⟨d1, d2⟩ := den_dvd m e
  refine ⟨d1, ?_⟩
  by_cases z0 : z = 0
  · have q0 : q = 0 := by
      have m0 := i0 m
      rw [z0] at e
      have e0 : ((0 : Int) : Rat) = 0 := rfl
      rw [e0] at e
      grind
    rw [q0]
    exact bt0 T
  · exact dvd_bt d2 z0 b
theorem Ov.add {M : Int} {T : Nat} {p q : Rat} (h : Ov M T p) (k : Ov M T q) : Ov M (T + 1) (p + q) := by
  obtain ⟨z, e, b⟩ := h
  obtain ⟨y, f, c⟩ := k
  exact ⟨z + y, by rw [Rat.intCast_add, e, f]; grind, b.add c⟩
theorem Ov.mul {M N : Int} {S T : Nat} {p q : Rat} (h : Ov M S p) (k : Ov N T q) : Ov (M * N) (S + T) (p * q) := by
  obtain ⟨z, e, b⟩ := h
  obtain ⟨y, f, c⟩ := k
  exact ⟨z * y, by rw [Rat.intCast_mul, Rat.intCast_mul, e, f]; grind, b.mul c⟩
theorem Ov.lift {M N : Int} {S T : Nat} {p : Rat} (h : Ov M S p) (b : Bt T N) : Ov (M * N) (S + T) p := by
  obtain ⟨z, e, c⟩ := h
  exact ⟨z * N, by rw [Rat.intCast_mul, Rat.intCast_mul, e]; grind, c.mul b⟩
theorem Ov.zero (M : Int) (T : Nat) : Ov M T 0 := ⟨0, by rw [Rat.zero_mul]; rfl, bt0 T⟩
theorem Ov.one {M : Int} {T : Nat} (b : Bt T M) : Ov M T 1 := ⟨M, by grind, b⟩
theorem Ov.self {T : Nat} {q : Rat} (b : Bt T q.num) : Ov (q.den : Int) T q := ⟨q.num, nd q, b⟩
theorem Ov.comm {M N : Int} {T : Nat} {q : Rat} (h : Ov (M * N) T q) : Ov (N * M) T q := by rw [Int.mul_comm]; exact h
theorem den_ne (q : Rat) : (q.den : Int) ≠ 0 := by have := q.den_pos; omega
theorem Ov.vb {M : Int} {T w : Nat} {u : Nat → Rat} (m : M ≠ 0) (h : ∀ j, j < w → Ov M T (u j)) : VB (fun _ => M) T w u := ⟨fun j hj => ((h j hj).den m).1, fun j hj => ((h j hj).den m).2⟩
/-- numbers times rows, added up -/
theorem Ov.dot {M : Int} {T : Nat} {u y : Nat → Rat} : ∀ {w : Nat}, (∀ j, j < w → Ov M T (u j * y j)) → Ov M (T + w) (dot u y w)
  | 0, _ => Ov.zero M _
  | w + 1, h => by
    have i := Ov.dot (w := w) fun j hj => h j (by omega)
    exact i.add ((h w (by omega)).up (by omega))
/-! ### sums of rows -/
theorem dot_add {u y z : Nat → Rat} : ∀ {w : Nat}, dot u (fun k => y k + z k) w = dot u y w + dot u z w
  | 0 => by unfold dot; grind
  | w + 1 => by
    unfold dot
    rw [dot_add]
    grind
theorem dot_mul {u y : Nat → Rat} {c : Rat} : ∀ {w : Nat}, dot u (fun k => c * y k) w = c * dot u y w
  | 0 => by unfold dot; grind
  | w + 1 => by
    unfold dot
    rw [dot_mul]
    grind
theorem dot_comm {u y : Nat → Rat} : ∀ {w : Nat}, dot u y w = dot y u w
  | 0 => rfl
  | w + 1 => by
    unfold dot
    rw [dot_comm]
    grind
/-- a sum of sums, the other way about -/
theorem dot_swap {x y : Nat → Rat} {B : Nat → Nat → Rat} {p : Nat} : ∀ {r : Nat}, dot x (fun k => dot (B k) y p) r = dot (fun t => dot x (fun k => B k t) r) y p
  | 0 => by
    rw [show dot x (fun k => dot (B k) y p) 0 = 0 from rfl]
    exact (dot_zero fun j _ => by show dot x (fun k => B k j) 0 * y j = 0; rw [show dot x (fun k => B k j) 0 = 0 from rfl]; grind).symm
  | r + 1 => by
    show dot x (fun k => dot (B k) y p) r + x r * dot (B r) y p = _
    rw [dot_swap]
    have e : dot (fun t => dot x (fun k => B k t) (r + 1)) y p = dot (fun t => 1 * (dot x (fun k => B k t) r - (- x r) * B r t)) y p := dot_congr (fun j _ => by show dot x (fun k => B k j) r + x r * B r j = _; grind) fun _ _ => rfl
    rw [e, dot_lin]
    grind
/-- v is the sum of the basis by its numbers at the leads -/
def InSp (p w : Nat) (L : Nat → Nat) (B : Nat → Nat → Rat) (v : Nat → Rat) : Prop := ∀ i, i < w → v i = dot (fun t => v (L t)) (fun t => B t i) p
theorem insp_dot {p w n : Nat} {L : Nat → Nat} {B V : Nat → Nat → Rat} {x : Nat → Rat} (hL : ∀ t, t < p → L t < w) (h : ∀ k, k < n → InSp p w L B (V k)) : InSp p w L B (fun i => dot x (fun k => V k i) n) := fun i hi => by
  show dot x (fun k => V k i) n = dot (fun t => dot x (fun k => V k (L t)) n) (fun t => B t i) p
  rw [← dot_swap (B := fun k t => V k (L t))]
  exact dot_congr (fun _ _ => rfl) fun k hk => by
    exact h k hk i hi
theorem insp_basis {p w : Nat} {L : Nat → Nat} {B : Nat → Nat → Rat} (E : Rref p w B L) {k : Nat} (hk : k < p) : InSp p w L B (B k) := fun i hi => by
  rw [dot_one (k := k) hk fun j hj n => by rw [E.off k j hk hj (fun e => n e.symm)]; grind]
  rw [E.one k hk]
  grind
/-- rows of a triangle over the leads are independent, in any order -/
theorem indep_tri {p w : Nat} {L σ : Nat → Nat} {V : Nat → Nat → Rat} (hL : ∀ t, t < p → L t < w) (up : ∀ k j, k < p → j < p → k < j → V k (L j) = 0) (di : ∀ k, k < p → V k (L k) ≠ 0)
    (s1 : ∀ k, k < p → σ k < p) (s2 : ∀ k j, k < p → j < p → σ k = σ j → k = j) : Indep p w (fun k => V (σ k)) := by
  intro y h
  have key : ∀ d m, d + m = p → ∀ k, k < p → m ≤ σ k → y k = 0 := by
    intro d
    induction d with
    | zero => intro m e k hk l; have := s1 k hk; omega
    | succ d ih =>
      intro m e k hk l
      by_cases lt : m + 1 ≤ σ k
      · exact ih (m + 1) (by omega) k hk lt
      · have em : σ k = m := by omega
        have z := h (L m) (hL m (by omega))
        rw [dot_one (k := k) hk fun j hj n => ?_] at z
        · have := di m (by omega)
          have z : V (σ k) (L m) * y k = 0 := z
          rw [em] at z
          grind
        · show V (σ j) (L m) * y j = 0
          rcases Nat.lt_trichotomy (σ j) m with q | q | q
          · rw [up (σ j) m (s1 j hj) (by omega) q]
            grind
          · exact absurd (s2 j k hj hk (by omega)) n
          · rw [ih (m + 1) (by omega) j hj (by omega)]
            grind
  intro k hk
  exact key p 0 (by omega) k hk (Nat.zero_le _)
end VM

set_option Elab.async false
set_option maxRecDepth 100000
/-! machines in plain Lean: rows, columns, tables and numbers of words; sums over two blocks, over pairs of places -/
namespace VN
open RQ VM
section
variable (n : Nat) (M : Nat → Nat → Nat → Rat)
/-- the row r, then the steps of the letters -/
def row : (Nat → Rat) → List Nat → Nat → Rat
  | r, [] => r
  | r, x :: w => row (fun j => dot r (fun i => M x i j) n) w
/-- the steps of the letters, then the column c -/
def col (c : Nat → Rat) : List Nat → Nat → Rat
  | [] => c
  | x :: w => fun i => dot (M x i) (col c w) n
def unit : Nat → Nat → Rat := fun i j => if i = j then 1 else 0
/-- the product of the steps of the letters, from the first one on -/
def tab (w : List Nat) : Nat → Nat → Rat := fun i => row n M (unit i) w
end
variable {n : Nat} {M : Nat → Nat → Nat → Rat}
theorem row_append : ∀ {u v : List Nat} {r : Nat → Rat}, row n M r (u ++ v) = row n M (row n M r u) v
  | [], _, _ => rfl
  | x :: u, v, r => row_append (u := u)
theorem col_append {c : Nat → Rat} : ∀ {u v : List Nat}, col n M c (u ++ v) = col n M (col n M c v) u
  | [], _ => rfl
  | x :: u, v => by
    show (fun i => dot (M x i) (col n M c (u ++ v)) n) = fun i => dot (M x i) (col n M (col n M c v) u) n
    rw [col_append]
theorem row_congr : ∀ {w : List Nat} {r r' : Nat → Rat}, (∀ j, j < n → r j = r' j) → ∀ j, j < n → row n M r w j = row n M r' w j
  | [], _, _, h => h
  | x :: w, r, r', h => row_congr (w := w) fun j hj => dot_congr h fun _ _ => rfl
theorem col_congr : ∀ {w : List Nat} {c c' : Nat → Rat}, (∀ j, j < n → c j = c' j) → ∀ j, j < n → col n M c w j = col n M c' w j
  | [], _, _, h => h
  | x :: w, c, c', h => fun j hj => dot_congr (fun _ _ => rfl) fun k hk => col_congr (w := w) h k hk
/-- the number from the left and from the right -/
theorem meet {c : Nat → Rat} : ∀ {w : List Nat} {r : Nat → Rat}, dot (row n M r w) c n = dot r (col n M c w) n
  | [], _ => rfl
  | x :: w, r => by
    show dot (row n M (fun j => dot r (fun i => M x i j) n) w) c n = dot r (fun i => dot (M x i) (col n M c w) n) n
    rw [meet (w := w), dot_swap]
/-- the number of u followed by v is the row of u with the column of v -/
theorem meet_append {r c : Nat → Rat} {u v : List Nat} : dot (row n M r (u ++ v)) c n = dot (row n M r u) (col n M c v) n := by
  rw [row_append]
  exact meet
theorem unit_dot {y : Nat → Rat} {i : Nat} (h : i < n) : dot (unit i) y n = y i := by
  rw [dot_one (k := i) h fun j _ ne => by unfold unit; rw [if_neg (Ne.symm ne), Rat.zero_mul]]
  unfold unit
  rw [if_pos rfl, Rat.one_mul]
theorem dot_unit {y : Nat → Rat} {j : Nat} (h : j < n) : dot y (fun i => unit i j) n = y j := by
  rw [dot_one (k := j) h fun i _ ne => by unfold unit; rw [if_neg ne, Rat.mul_zero]]
  unfold unit
  rw [if_pos rfl, Rat.mul_one]
/-- a row of the table -/
theorem row_tab {j : Nat} (hj : j < n) : ∀ {w : List Nat} {r : Nat → Rat}, row n M r w j = dot r (fun i => tab n M w i j) n := by
  intro w
  have at_end : ∀ (r : Nat → Rat), row n M r w j = dot (row n M r w) (fun i => unit i j) n := fun r => (dot_unit hj).symm
  intro r
  rw [at_end r, meet]
  refine dot_congr (fun _ _ => rfl) fun i hi => ?_
  show col n M (fun i => unit i j) w i = row n M (unit i) w j
  rw [at_end (unit i), meet, unit_dot hi]
theorem col_tab {c : Nat → Rat} {w : List Nat} {i : Nat} (hi : i < n) : col n M c w i = dot (tab n M w i) c n := by
  show _ = dot (row n M (unit i) w) c n
  rw [meet, unit_dot hi]
theorem tab_append {u v : List Nat} {i j : Nat} (hj : j < n) : tab n M (u ++ v) i j = dot (tab n M u i) (fun k => tab n M v k j) n := by
  show row n M (unit i) (u ++ v) j = _
  rw [row_append]
  exact row_tab hj
/-! ### sums in two blocks, over pairs -/
theorem dot_two {u y : Nat → Rat} {a : Nat} : ∀ {b : Nat}, dot u y (a + b) = dot u y a + dot (fun i => u (a + i)) (fun i => y (a + i)) b
  | 0 => by
    show dot u y a = dot u y a + 0
    grind
  | b + 1 => by
    show dot u y (a + b) + u (a + b) * y (a + b) = dot u y a + (dot (fun i => u (a + i)) (fun i => y (a + i)) b + u (a + b) * y (a + b))
    rw [dot_two (b := b)]
    grind
theorem dot_scale {u y : Nat → Rat} {c : Rat} : ∀ {w : Nat}, dot (fun k => c * u k) y w = c * dot u y w
  | 0 => by unfold dot; grind
  | w + 1 => by
    unfold dot
    rw [dot_scale]
    grind
/-- the first index counts in steps of b -/
theorem dot_pairs {u y v z : Nat → Rat} {b : Nat} (hb : 0 < b) : ∀ {a : Nat}, dot (fun t => u (t / b) * v (t % b)) (fun t => y (t / b) * z (t % b)) (a * b) = dot u y a * dot v z b
  | 0 => by
    rw [Nat.zero_mul]
    unfold dot
    grind
  | a + 1 => by
    rw [Nat.succ_mul, dot_two, dot_pairs hb (a := a)]
    have e : dot (fun i => u ((a * b + i) / b) * v ((a * b + i) % b)) (fun i => y ((a * b + i) / b) * z ((a * b + i) % b)) b = u a * y a * dot v z b := by
      have d : ∀ i, i < b → (a * b + i) / b = a ∧ (a * b + i) % b = i := fun i hi => by
        rw [Nat.mul_comm]
        refine ⟨?_, ?_⟩
        · rw [Nat.mul_add_div hb, Nat.div_eq_of_lt hi, Nat.add_zero]
        · rw [Nat.mul_add_mod, Nat.mod_eq_of_lt hi]
      have e1 : dot (fun i => u ((a * b + i) / b) * v ((a * b + i) % b)) (fun i => y ((a * b + i) / b) * z ((a * b + i) % b)) b = dot (fun i => u a * v i) (fun i => y a * z i) b :=
        dot_congr (fun i hi => by rw [(d i hi).1, (d i hi).2]) fun i hi => by rw [(d i hi).1, (d i hi).2]
      rw [e1, dot_scale, dot_mul]
      grind
    rw [e]
    show _ = (dot u y a + u a * y a) * dot v z b
    grind
/-! ### machines in two blocks -/
theorem row_add : ∀ {w : List Nat} {r s : Nat → Rat}, row n M (fun j => r j + s j) w = fun j => row n M r w j + row n M s w j
  | [], _, _ => rfl
  | x :: w, r, s => by
    show row n M (fun j => dot (fun i => r i + s i) (fun i => M x i j) n) w = fun j => row n M (fun j => dot r (fun i => M x i j) n) w j + row n M (fun j => dot s (fun i => M x i j) n) w j
    rw [← row_add (w := w)]
    congr 1
    funext j
    rw [dot_comm, dot_add, dot_comm, dot_comm (u := fun i => M x i j) (y := s)]
theorem row_scale {c : Rat} : ∀ {w : List Nat} {r : Nat → Rat}, row n M (fun j => c * r j) w = fun j => c * row n M r w j
  | [], _ => rfl
  | x :: w, r => by
    show row n M (fun j => dot (fun i => c * r i) (fun i => M x i j) n) w = fun j => c * row n M (fun j => dot r (fun i => M x i j) n) w j
    rw [← row_scale (w := w)]
    congr 1
    funext j
    exact dot_scale
theorem col_add : ∀ {w : List Nat} {c d : Nat → Rat}, col n M (fun j => c j + d j) w = fun j => col n M c w j + col n M d w j
  | [], _, _ => rfl
  | x :: w, c, d => by
    show (fun i => dot (M x i) (col n M (fun j => c j + d j) w) n) = fun i => dot (M x i) (col n M c w) n + dot (M x i) (col n M d w) n
    rw [col_add (w := w)]
    funext i
    exact dot_add
theorem col_scale {c : Rat} : ∀ {w : List Nat} {d : Nat → Rat}, col n M (fun j => c * d j) w = fun j => c * col n M d w j
  | [], _ => rfl
  | x :: w, d => by
    show (fun i => dot (M x i) (col n M (fun j => c * d j) w) n) = fun i => c * dot (M x i) (col n M d w) n
    rw [col_scale (w := w)]
    funext i
    exact dot_mul
/-- the step C has A above on the left, B below on the right, U above on the right, and 0 below on the left -/
structure Tri (a b : Nat) (A B U C : Nat → Nat → Nat → Rat) : Prop where
  ul : ∀ x i j, i < a → j < a → C x i j = A x i j
  ur : ∀ x i j, i < a → j < b → C x i (a + j) = U x i j
  ll : ∀ x i j, i < b → j < a → C x (a + i) j = 0
  lr : ∀ x i j, i < b → j < b → C x (a + i) (a + j) = B x i j
section
variable {a b : Nat} {A B U C : Nat → Nat → Nat → Rat}
theorem Tri.left (t : Tri a b A B U C) : ∀ {w : List Nat} {r : Nat → Rat} {j : Nat}, j < a → row (a + b) C r w j = row a A r w j
  | [], _, _, _ => rfl
  | x :: w, r, j, hj => by
    show row (a + b) C (fun j => dot r (fun i => C x i j) (a + b)) w j = row a A (fun j => dot r (fun i => A x i j) a) w j
    rw [t.left (w := w) hj]
    refine row_congr (fun l hl => ?_) j hj
    show dot r (fun i => C x i l) (a + b) = dot r (fun i => A x i l) a
    rw [dot_two, dot_congr (w := a) (fun _ _ => rfl) (fun i hi => t.ul x i l hi hl), dot_zero (w := b) fun i hi => by rw [t.ll x i l hi hl, Rat.mul_zero]]
    grind
theorem Tri.low (t : Tri a b A B U C) {c : Nat → Rat} : ∀ {w : List Nat} {i : Nat}, i < b → col (a + b) C c w (a + i) = col b B (fun i => c (a + i)) w i
  | [], _, _ => rfl
  | x :: w, i, hi => by
    show dot (C x (a + i)) (col (a + b) C c w) (a + b) = dot (B x i) (col b B (fun i => c (a + i)) w) b
    rw [dot_two, dot_zero (w := a) fun j hj => by rw [t.ll x i j hi hj, Rat.zero_mul]]
    rw [dot_congr (w := b) (fun j hj => t.lr x i j hi hj) fun j hj => t.low (w := w) hj]
    grind
/-- all ways to part a word at a letter -/
def cuts : List Nat → List (List Nat × Nat × List Nat)
  | [] => []
  | x :: w => ([], x, w) :: (cuts w).map fun q => (x :: q.1, q.2)
def total {α : Type} (f : α → Rat) : List α → Rat
  | [] => 0
  | q :: l => f q + total f l
theorem total_map {α β : Type} {f : β → Rat} {g : α → β} : ∀ {l : List α}, total f (l.map g) = total (fun q => f (g q)) l
  | [] => rfl
  | q :: l => by
    show f (g q) + total f (l.map g) = f (g q) + total (fun q => f (g q)) l
    rw [total_map]
theorem total_congr {α : Type} {f g : α → Rat} : ∀ {l : List α}, (∀ q, q ∈ l → f q = g q) → total f l = total g l
  | [], _ => rfl
  | q :: l, h => by
    show f q + total f l = g q + total g l
    rw [h q List.mem_cons_self, total_congr fun p hp => h p (List.mem_cons_of_mem _ hp)]
/-- the right block of a row: what stood there goes on, and at each letter something comes over -/
theorem Tri.right (t : Tri a b A B U C) : ∀ {w : List Nat} {r : Nat → Rat} {j : Nat}, j < b → row (a + b) C r w (a + j) = row b B (fun i => r (a + i)) w j + total (fun q => row b B (fun l => dot (row a A r q.1) (fun i => U q.2.1 i l) a) q.2.2 j) (cuts w)
  | [], r, j, _ => by
    show r (a + j) = r (a + j) + 0
    grind
  | x :: w, r, j, hj => by
    show row (a + b) C (fun j => dot r (fun i => C x i j) (a + b)) w (a + j) = _
    rw [t.right (w := w) hj]
    have e1 : ∀ l, l < b → dot r (fun i => C x i (a + l)) (a + b) = dot r (fun i => U x i l) a + dot (fun i => r (a + i)) (fun i => B x i l) b := fun l hl => by
      rw [dot_two, dot_congr (w := a) (fun _ _ => rfl) (fun i hi => t.ur x i l hi hl), dot_congr (w := b) (fun _ _ => rfl) (fun i hi => t.lr x i l hi hl)]
    have e2 : row b B (fun l => dot r (fun i => C x i (a + l)) (a + b)) w j = row b B (fun l => dot r (fun i => U x i l) a) w j + row b B (fun l => dot (fun i => r (a + i)) (fun i => B x i l) b) w j := by
      rw [row_congr e1 j hj, row_add]
    have e3 : total (fun q => row b B (fun l => dot (row a A (fun j => dot r (fun i => C x i j) (a + b)) q.1) (fun i => U q.2.1 i l) a) q.2.2 j) (cuts w) = total (fun q => row b B (fun l => dot (row a A r (x :: q.1)) (fun i => U q.2.1 i l) a) q.2.2 j) (cuts w) :=
      total_congr fun q _ => row_congr (fun l hl => dot_congr (fun i hi => by
        show row a A (fun j => dot r (fun i => C x i j) (a + b)) q.1 i = row a A (fun j => dot r (fun i => A x i j) a) q.1 i
        refine row_congr (fun m hm => ?_) i hi
        show dot r (fun i => C x i m) (a + b) = dot r (fun i => A x i m) a
        rw [dot_two, dot_congr (w := a) (fun _ _ => rfl) (fun i hi => t.ul x i m hi hm), dot_zero (w := b) fun i hi => by rw [t.ll x i m hi hm, Rat.mul_zero]]
        grind) fun _ _ => rfl) j hj
    rw [e2, e3]
    show _ = row b B (fun l => dot (fun i => r (a + i)) (fun i => B x i l) b) w j + (row b B (fun l => dot r (fun i => U x i l) a) w j + total (fun q => row b B (fun l => dot (row a A r q.1) (fun i => U q.2.1 i l) a) q.2.2 j) ((cuts w).map fun q => (x :: q.1, q.2)))
    rw [total_map]
    grind
end
end VN

set_option Elab.async false
set_option maxRecDepth 100000
/-! machines in plain Lean: pairs of states, all choices of places, words backwards, words for letters, all words of a length -/
namespace VN
open RQ VM
variable {n a b : Nat} {M A B C : Nat → Nat → Nat → Rat}
theorem total_append {α : Type} {f : α → Rat} : ∀ {l m : List α}, total f (l ++ m) = total f l + total f m
  | [], m => by
    show total f m = 0 + total f m
    grind
  | q :: l, m => by
    show f q + total f (l ++ m) = f q + total f l + total f m
    rw [total_append]
    grind
/-- the row with r (t / b) times s (t mod b) at t -/
def pair (b : Nat) (r s : Nat → Rat) : Nat → Rat := fun t => r (t / b) * s (t % b)
theorem pair_at {r s : Nat → Rat} {i j : Nat} (h : j < b) : pair b r s (i * b + j) = r i * s j := by
  unfold pair
  rw [Nat.mul_comm, Nat.mul_add_div (by omega), Nat.div_eq_of_lt h, Nat.add_zero, Nat.mul_add_mod, Nat.mod_eq_of_lt h]
theorem div_lt {t : Nat} (h : t < a * b) : t / b < a := Nat.div_lt_of_lt_mul (by rw [Nat.mul_comm]; exact h)
theorem mod_lt {t : Nat} (h : t < a * b) : t % b < b := Nat.mod_lt _ (by
  rcases Nat.eq_zero_or_pos b with z | z
  · rw [z, Nat.mul_zero] at h
    omega
  · exact z)
theorem pos_of {t : Nat} (h : t < a * b) : 0 < b := by
  have := mod_lt h
  omega
/-- the product of two machines -/
theorem both (h : ∀ x s t, s < a * b → t < a * b → C x s t = A x (s / b) (t / b) * B x (s % b) (t % b)) : ∀ {w : List Nat} {r s : Nat → Rat} {t : Nat}, t < a * b → row (a * b) C (pair b r s) w t = row a A r w (t / b) * row b B s w (t % b)
  | [], _, _, _, _ => rfl
  | x :: w, r, s, t, ht => by
    show row (a * b) C (fun j => dot (pair b r s) (fun i => C x i j) (a * b)) w t = row a A (fun j => dot r (fun i => A x i j) a) w (t / b) * row b B (fun j => dot s (fun i => B x i j) b) w (t % b)
    rw [← both h (w := w) ht]
    refine row_congr (fun j hj => ?_) t ht
    show dot (pair b r s) (fun i => C x i j) (a * b) = dot r (fun i => A x i (j / b)) a * dot s (fun i => B x i (j % b)) b
    rw [← dot_pairs (pos_of ht)]
    exact dot_congr (fun _ _ => rfl) fun i hi => h x i j hi hj
/-- all ways to deal the letters of a word out to two words -/
def deals : List Nat → List (List Nat × List Nat)
  | [] => [([], [])]
  | x :: w => ((deals w).map fun q => (x :: q.1, q.2)) ++ (deals w).map fun q => (q.1, x :: q.2)
/-- a letter goes to the one machine or to the other -/
theorem dealt (h : ∀ x s t, s < a * b → t < a * b → C x s t = A x (s / b) (t / b) * unit (s % b) (t % b) + unit (s / b) (t / b) * B x (s % b) (t % b)) :
    ∀ {w : List Nat} {r s : Nat → Rat} {t : Nat}, t < a * b → row (a * b) C (pair b r s) w t = total (fun q => row a A r q.1 (t / b) * row b B s q.2 (t % b)) (deals w)
  | [], r, s, t, _ => by
    show r (t / b) * s (t % b) = r (t / b) * s (t % b) + 0
    grind
  | x :: w, r, s, t, ht => by
    show row (a * b) C (fun j => dot (pair b r s) (fun i => C x i j) (a * b)) w t = total (fun q => row a A r q.1 (t / b) * row b B s q.2 (t % b)) (((deals w).map fun q => (x :: q.1, q.2)) ++ (deals w).map fun q => (q.1, x :: q.2))
    rw [total_append, total_map, total_map]
    show _ = total (fun q => row a A (fun j => dot r (fun i => A x i j) a) q.1 (t / b) * row b B s q.2 (t % b)) (deals w) + total (fun q => row a A r q.1 (t / b) * row b B (fun j => dot s (fun i => B x i j) b) q.2 (t % b)) (deals w)
    rw [← dealt h (w := w) ht, ← dealt h (w := w) ht]
    have e : ∀ j, j < a * b → dot (pair b r s) (fun i => C x i j) (a * b) = pair b (fun j => dot r (fun i => A x i j) a) s j + pair b r (fun j => dot s (fun i => B x i j) b) j := fun j hj => by
      rw [dot_congr (w := a * b) (fun _ _ => rfl) fun i hi => h x i j hi hj, dot_add]
      have e1 : dot (pair b r s) (fun i => A x (i / b) (j / b) * unit (i % b) (j % b)) (a * b) = dot r (fun i => A x i (j / b)) a * dot s (fun i => unit i (j % b)) b := dot_pairs (u := r) (y := fun i => A x i (j / b)) (v := s) (z := fun i => unit i (j % b)) (a := a) (pos_of ht)
      have e2 : dot (pair b r s) (fun i => unit (i / b) (j / b) * B x (i % b) (j % b)) (a * b) = dot r (fun i => unit i (j / b)) a * dot s (fun i => B x i (j % b)) b := dot_pairs (u := r) (y := fun i => unit i (j / b)) (v := s) (z := fun i => B x i (j % b)) (a := a) (pos_of ht)
      rw [e1, e2, dot_unit (mod_lt hj), dot_unit (div_lt hj)]
      rfl
    rw [row_congr e t ht, row_add]
/-- the steps turned about: words backwards -/
theorem turned : ∀ {w : List Nat} {r : Nat → Rat}, row n (fun x i j => M x j i) r w = col n M r w.reverse
  | [], _ => rfl
  | x :: w, r => by
    show row n (fun x i j => M x j i) (fun j => dot r (fun i => M x j i) n) w = _
    rw [turned (w := w), List.reverse_cons, col_append]
    congr 1
    funext j
    exact dot_comm
/-- words for letters -/
theorem putted {f : Nat → List Nat} (h : ∀ x i j, i < n → j < n → C x i j = tab n M (f x) i j) : ∀ {w : List Nat} {r : Nat → Rat} {j : Nat}, j < n → row n C r w j = row n M r (w.flatMap f) j
  | [], _, _, _ => rfl
  | x :: w, r, j, hj => by
    show row n C (fun j => dot r (fun i => C x i j) n) w j = _
    rw [List.flatMap_cons, row_append, putted h (w := w) hj]
    refine row_congr (fun l hl => ?_) j hj
    show dot r (fun i => C x i l) n = row n M r (f x) l
    rw [row_tab hl]
    exact dot_congr (fun _ _ => rfl) fun i hi => h x i l hi hl
/-- all words of m letters of an alphabet of k -/
def words (k : Nat) : Nat → List (List Nat)
  | 0 => [[]]
  | m + 1 => (List.range k).flatMap fun x => (words k m).map (x :: ·)
theorem total_flat {α β : Type} {f : β → Rat} {g : α → List β} : ∀ {l : List α}, total f (l.flatMap g) = total (fun x => total f (g x)) l
  | [] => rfl
  | q :: l => by
    rw [List.flatMap_cons, total_append, total_flat]
    rfl
theorem row_total {α : Type} {r : α → Nat → Rat} {w : List Nat} : ∀ {l : List α} {j : Nat}, j < n → row n M (fun j => total (fun x => r x j) l) w j = total (fun x => row n M (r x) w j) l
  | [], j, hj => by
    have z : ∀ {w : List Nat}, row n M (fun _ => 0) w = fun _ => 0 := by
      intro w
      have := row_scale (n := n) (M := M) (c := 0) (w := w) (r := fun _ => 0)
      simp only [Rat.zero_mul] at this
      exact this
    show row n M (fun _ => 0) w j = 0
    rw [z]
  | q :: l, j, hj => by
    show row n M (fun j => r q j + total (fun x => r x j) l) w j = row n M (r q) w j + total (fun x => row n M (r x) w j) l
    rw [row_add]
    show row n M (r q) w j + row n M (fun j => total (fun x => r x j) l) w j = _
    rw [row_total (l := l) hj]
theorem dot_total {α : Type} {y : α → Nat → Rat} {r : Nat → Rat} : ∀ {l : List α}, dot r (fun i => total (fun x => y x i) l) n = total (fun x => dot r (y x) n) l
  | [] => dot_zero fun _ _ => Rat.mul_zero _
  | q :: l => by
    show dot r (fun i => y q i + total (fun x => y x i) l) n = dot r (y q) n + total (fun x => dot r (y x) n) l
    rw [dot_add, dot_total]
/-- one letter, whose step is the sum of the steps: all words of a length at once -/
theorem summed {k z : Nat} (h : ∀ i j, i < n → j < n → C z i j = total (fun x => M x i j) (List.range k)) : ∀ {m : Nat} {r : Nat → Rat} {j : Nat}, j < n → row n C r (List.replicate m z) j = total (fun w => row n M r w j) (words k m)
  | 0, r, j, _ => by
    show r j = r j + 0
    grind
  | m + 1, r, j, hj => by
    rw [List.replicate_succ]
    show row n C (fun j => dot r (fun i => C z i j) n) (List.replicate m z) j = total (fun w => row n M r w j) ((List.range k).flatMap fun x => (words k m).map (x :: ·))
    rw [total_flat]
    have e : ∀ l, l < n → dot r (fun i => C z i l) n = total (fun x => dot r (fun i => M x i l) n) (List.range k) := fun l hl => by
      rw [dot_congr (w := n) (fun _ _ => rfl) fun i hi => h i l hi hl, dot_total]
    rw [row_congr e j hj, row_total hj]
    refine total_congr fun x _ => ?_
    rw [summed h (m := m) hj, total_map]
    rfl
/-- all ways to part a word behind at least one letter -/
def heads : List Nat → List (List Nat × List Nat)
  | [] => []
  | x :: w => ([x], w) :: (heads w).map fun q => (x :: q.1, q.2)
theorem row_mix {r s : Nat → Rat} {c : Rat} {w : List Nat} {j : Nat} : row n M (fun j => r j + c * s j) w j = row n M r w j + c * row n M s w j := by
  rw [row_add]
  show row n M r w j + row n M (fun j => c * s j) w j = _
  rw [row_scale]
/-- behind each letter the start s comes anew, as often as the end e says, which the start itself does not meet -/
theorem again {s e : Nat → Rat} (h : ∀ x i j, i < n → j < n → C x i j = A x i j + dot (A x i) e n * s j) (z : dot s e n = 0) :
    ∀ {w : List Nat} {r : Nat → Rat} {j : Nat}, j < n → row n C r w j = row n A r w j + total (fun q => dot (row n C r q.1) e n * row n A s q.2 j) (heads w)
  | [], r, j, _ => by
    show r j = r j + 0
    grind
  | x :: w, r, j, hj => by
    have step : ∀ l, l < n → dot r (fun i => C x i l) n = dot r (fun i => A x i l) n + dot (fun j => dot r (fun i => A x i j) n) e n * s l := fun l hl => by
      rw [dot_congr (w := n) (fun _ _ => rfl) fun i hi => h x i l hi hl, dot_add]
      congr 1
      have e1 : dot r (fun i => dot (A x i) e n * s l) n = dot r (fun i => s l * dot (A x i) e n) n := dot_congr (fun _ _ => rfl) fun i _ => Rat.mul_comm _ _
      rw [e1, dot_mul, dot_swap]
      exact Rat.mul_comm _ _
    have r1 : dot (fun j => dot r (fun i => C x i j) n) e n = dot (fun j => dot r (fun i => A x i j) n) e n := by
      rw [dot_congr step fun _ _ => rfl, dot_comm, dot_add, dot_comm]
      have e1 : dot e (fun l => dot (fun j => dot r (fun i => A x i j) n) e n * s l) n = 0 := by
        rw [dot_mul, dot_comm (u := e) (y := s), z, Rat.mul_zero]
      rw [e1]
      grind
    show row n C (fun j => dot r (fun i => C x i j) n) w j = row n A (fun j => dot r (fun i => A x i j) n) w j + (dot (fun j => dot r (fun i => C x i j) n) e n * row n A s w j + total (fun q => dot (row n C r q.1) e n * row n A s q.2 j) ((heads w).map fun q => (x :: q.1, q.2)))
    rw [again h z (w := w) hj, total_map, r1]
    have e2 : row n A (fun j => dot r (fun i => C x i j) n) w j = row n A (fun j => dot r (fun i => A x i j) n) w j + dot (fun j => dot r (fun i => A x i j) n) e n * row n A s w j := by
      rw [row_congr step j hj]
      exact row_mix
    rw [e2]
    show _ + total (fun q => dot (row n C (fun j => dot r (fun i => C x i j) n) q.1) e n * row n A s q.2 j) (heads w) = _
    have e3 : total (fun q => dot (row n C r (x :: q.1)) e n * row n A s q.2 j) (heads w) = total (fun q => dot (row n C (fun j => dot r (fun i => C x i j) n) q.1) e n * row n A s q.2 j) (heads w) := rfl
    rw [← e3]
    grind
end VN

set_option Elab.async false
set_option maxRecDepth 100000
/-! sizes of the rows, columns and numbers of words -/
namespace VN
open RQ VM
def prod (N : Nat → Int) : List Nat → Int
  | [] => 1
  | x :: w => N x * prod N w
theorem prod_ne {N : Nat → Int} (h : ∀ x, N x ≠ 0) : ∀ {w : List Nat}, prod N w ≠ 0
  | [] => by show (1 : Int) ≠ 0; decide
  | x :: w => Int.mul_ne_zero (h x) (prod_ne h)
variable {n a : Nat} {M : Nat → Nat → Nat → Rat} {N : Nat → Int}
theorem row_ov (h : ∀ x i j, i < n → j < n → Ov (N x) a (M x i j)) : ∀ {w : List Nat} {D : Int} {T : Nat} {r : Nat → Rat}, (∀ i, i < n → Ov D T (r i)) → ∀ j, j < n → Ov (D * prod N w) (T + (a + n) * w.length) (row n M r w j)
  | [], D, T, r, hr, j, hj => by
    show Ov (D * 1) (T + (a + n) * 0) (r j)
    rw [Int.mul_one, Nat.mul_zero, Nat.add_zero]
    exact hr j hj
  | x :: w, D, T, r, hr, j, hj => by
    have s : ∀ j, j < n → Ov (D * N x) (T + a + n) (dot r (fun i => M x i j) n) := fun j hj => Ov.dot fun i hi => (hr i hi).mul (h x i j hi hj)
    have e := row_ov h (w := w) s j hj
    have e1 : D * prod N (x :: w) = D * N x * prod N w := (Int.mul_assoc _ _ _).symm
    have e2 : T + (a + n) * (x :: w).length = T + a + n + (a + n) * w.length := by
      rw [List.length_cons, Nat.mul_succ]
      omega
    rw [e1, e2]
    exact e
theorem col_ov (h : ∀ x i j, i < n → j < n → Ov (N x) a (M x i j)) {D : Int} {T : Nat} {c : Nat → Rat} (hc : ∀ i, i < n → Ov D T (c i)) : ∀ {w : List Nat}, ∀ i, i < n → Ov (prod N w * D) ((a + n) * w.length + T) (col n M c w i)
  | [], i, hi => by
    show Ov (1 * D) ((a + n) * 0 + T) (c i)
    rw [Int.one_mul, Nat.mul_zero, Nat.zero_add]
    exact hc i hi
  | x :: w, i, hi => by
    have s := Ov.dot (w := n) (u := M x i) (y := col n M c w) (M := N x * (prod N w * D)) (T := a + ((a + n) * w.length + T)) fun j hj => (h x i j hi hj).mul (col_ov h hc (w := w) j hj)
    have e1 : prod N (x :: w) * D = N x * (prod N w * D) := Int.mul_assoc _ _ _
    have e2 : (a + n) * (x :: w).length + T = a + ((a + n) * w.length + T) + n := by
      rw [List.length_cons, Nat.mul_succ]
      omega
    rw [e1, e2]
    exact s
/-- and what is summed up halfway -/
theorem half_ov {D E : Int} {S T : Nat} {r c : Nat → Rat} (hr : ∀ i, i < n → Ov D S (r i)) (hc : ∀ i, i < n → Ov E T (c i)) {m : Nat} (hm : m ≤ n) : Ov (D * E) (S + T + n) (dot r c m) :=
  (Ov.dot (w := m) fun i hi => (hr i (Nat.lt_of_lt_of_le hi hm)).mul (hc i (Nat.lt_of_lt_of_le hi hm))).up (Nat.add_le_add_left hm _)
/-- the product of the bottoms of the first k numbers -/
def dens (f : Nat → Rat) : Nat → Int
  | 0 => 1
  | k + 1 => dens f k * ((f k).den : Int)
theorem dens_ne {f : Nat → Rat} : ∀ {k : Nat}, dens f k ≠ 0
  | 0 => by show (1 : Int) ≠ 0; decide
  | k + 1 => Int.mul_ne_zero dens_ne (den_ne _)
theorem dens_bt {f : Nat → Rat} {b : Nat} : ∀ {k : Nat}, (∀ i, i < k → Bt b ((f i).den : Int)) → Bt (b * k + 1) (dens f k)
  | 0, _ => by
    show (1 : Nat) < 2 ^ (b * 0 + 1)
    rw [Nat.mul_zero]
    decide
  | k + 1, h => by
    have e := (dens_bt (k := k) fun i hi => h i (by omega)).mul (h k (by omega))
    rw [Nat.mul_succ, Nat.add_right_comm]
    exact e
theorem dens_ov {f : Nat → Rat} {b : Nat} : ∀ {k : Nat}, (∀ i, i < k → Bt b (f i).num ∧ Bt b ((f i).den : Int)) → ∀ i, i < k → Ov (dens f k) (b + (b * k + 1)) (f i)
  | 0, _, i, hi => absurd hi (Nat.not_lt_zero _)
  | k + 1, h, i, hi => by
    rw [Nat.mul_succ]
    rcases Nat.lt_or_eq_of_le (Nat.le_of_lt_succ hi) with q | q
    · have e := (dens_ov (k := k) (fun i hi => h i (by omega)) i q).lift (h k (by omega)).2
      exact e.up (by omega)
    · subst q
      have e := ((Ov.self (h i (by omega)).1).lift (dens_bt (f := f) (b := b) (k := i) fun j hj => (h j (by omega)).2)).comm
      exact e.up (by omega)
/-- .. of a table of n rows of n numbers, read row by row -/
theorem table_ov {n b : Nat} {A : Nat → Nat → Rat} (h : ∀ i j, i < n → j < n → Bt b (A i j).num ∧ Bt b ((A i j).den : Int)) : ∃ N : Int, N ≠ 0 ∧ Bt (b * (n * n) + 1) N ∧ ∀ i j, i < n → j < n → Ov N (b + (b * (n * n) + 1)) (A i j) := by
  have at_ : ∀ t, t < n * n → t / n < n ∧ t % n < n := fun t ht => ⟨div_lt ht, mod_lt ht⟩
  refine ⟨dens (fun t => A (t / n) (t % n)) (n * n), dens_ne, dens_bt fun t ht => (h _ _ (at_ t ht).1 (at_ t ht).2).2, fun i j hi hj => ?_⟩
  have lt : i * n + j < n * n := by
    have : (i + 1) * n ≤ n * n := Nat.mul_le_mul_right n hi
    rw [Nat.succ_mul] at this
    omega
  have e := dens_ov (f := fun t => A (t / n) (t % n)) (b := b) (k := n * n) (fun t ht => h _ _ (at_ t ht).1 (at_ t ht).2) (i * n + j) lt
  have d : (i * n + j) / n = i ∧ (i * n + j) % n = j := by
    have hp : 0 < n := by omega
    rw [Nat.mul_comm]
    exact ⟨by rw [Nat.mul_add_div hp, Nat.div_eq_of_lt hj, Nat.add_zero], by rw [Nat.mul_add_mod, Nat.mod_eq_of_lt hj]⟩
  have e : Ov _ _ (A ((i * n + j) / n) ((i * n + j) % n)) := e
  rw [d.1, d.2] at e
  exact e
end VN

set_option Elab.async false
set_option maxRecDepth 100000
namespace RX
open PySem L2
/-! ### nested data: what stands at a value, and that it stays -/
inductive Dat where
  | non
  | bl (b : Bool)
  | int (i : Int)
  | str (s : Str)
  | rat (q : Rat)
  | tup (ds : List Dat)
  | lst (ds : List Dat)
  | sq (ds : List Dat)
/-- the value holds the data; none of its objects is in N -/
inductive At (C : Addr) (N : Addr → Prop) (H : Hp) : V → Dat → Prop where
  | non : At C N H .non .non
  | bl (b : Bool) : At C N H (.bl b) (.bl b)
  | int (i : Int) : At C N H (.int i) (.int i)
  | str (s : Str) : At C N H (.str s) (.str s)
  | rat {p : Addr} {q : Rat} (h : RatAt C H p q.num (q.den : Int)) (n : ¬ N p) : At C N H (.ref p) (.rat q)
  | tup {p : Addr} {xs : List V} {ds : List Dat} (h : H p = some (.tup xs)) (n : ¬ N p) (l : xs.length = ds.length) (e : ∀ (i : Nat) (x : V) (d : Dat), xs[i]? = some x → ds[i]? = some d → At C N H x d) : At C N H (.ref p) (.tup ds)
  | lst {p : Addr} {xs : List V} {ds : List Dat} (h : H p = some (.lst xs)) (n : ¬ N p) (l : xs.length = ds.length) (e : ∀ (i : Nat) (x : V) (d : Dat), xs[i]? = some x → ds[i]? = some d → At C N H x d) : At C N H (.ref p) (.lst ds)
  | sq {p : Addr} {xs : List V} {ds : List Dat} (h : H p = some (.tup xs) ∨ H p = some (.lst xs)) (n : ¬ N p) (l : xs.length = ds.length) (e : ∀ (i : Nat) (x : V) (d : Dat), xs[i]? = some x → ds[i]? = some d → At C N H x d) : At C N H (.ref p) (.sq ds)
/-- all but what N holds stays -/
structure Keep (N : Addr → Prop) (H H' : Hp) : Prop where
  k : ∀ b o, H b = some o → ¬ N b → H' b = some o
  a : ∀ b, H b ≠ none → H' b ≠ none
def Alc (N : Addr → Prop) (H : Hp) : Prop := ∀ b, N b → H b ≠ none
/-- N and one more -/
def And1 (N : Addr → Prop) (D : Addr) : Addr → Prop := fun b => N b ∨ b = D
def Emp : Addr → Prop := fun _ => False
theorem Keep.refl {N : Addr → Prop} {H : Hp} : Keep N H H := ⟨fun _ _ h _ => h, fun _ h => h⟩
theorem Keep.trans {N : Addr → Prop} {H H1 H2 : Hp} (x : Keep N H H1) (y : Keep N H1 H2) : Keep N H H2 := ⟨fun b o h n => y.k b o (x.k b o h n) n, fun b h => y.a b (x.a b h)⟩
theorem Same.keep {N : Addr → Prop} {H H' : Hp} (s : Same H H') : Keep N H H' := ⟨fun b o h _ => s b o h, fun b h => by
  cases e : H b with
  | none => exact absurd e h
  | some o => rw [s b o e]; intro z; cases z⟩
theorem Keep.same {H H' : Hp} (k : Keep Emp H H') : Same H H' := fun b o h => k.k b o h id
theorem Keep.more {N M : Addr → Prop} {H H' : Hp} (k : Keep N H H') (s : ∀ b, N b → M b) : Keep M H H' := ⟨fun b o h n => k.k b o h fun z => n (s b z), k.a⟩
theorem Keep.upd {N : Addr → Prop} {H : Hp} {D : Addr} {o : HO} (h : N D) : Keep N H (L2.upd H D o) := ⟨fun b o' e n => by
  rw [upd_ne fun z => n (by rw [z]; exact h)]
  exact e, fun b e => by
  by_cases z : b = D
  · rw [z, upd_same]; intro y; cases y
  · rw [upd_ne z]; exact e⟩
theorem Keep.new {N : Addr → Prop} {H : Hp} {D : Addr} {o : HO} (h : H D = none) : Keep N H (L2.upd H D o) := Same.keep (Same.upd h)
theorem Keep.but {N : Addr → Prop} {H H' : Hp} {a : Addr} (b : But a H H') (n : N a) (s : H' a ≠ none) : Keep N H H' := ⟨fun c o h m => b c o h fun z => m (by rw [z]; exact n), fun c h => by
  by_cases e : c = a
  · rw [e]; exact s
  · cases q : H c with
    | none => exact absurd q h
    | some o => rw [b c o q e]; intro y; cases y⟩
theorem Keep.free {N : Addr → Prop} {H H' : Hp} {r : Addr} (k : Keep N H H') (h : H' r = none) : H r = none := by
  cases e : H r with
  | none => rfl
  | some o => exact absurd h (k.a r (by rw [e]; intro z; cases z))
theorem Alc.keep {N M : Addr → Prop} {H H' : Hp} (a : Alc N H) (k : Keep M H H') : Alc N H' := fun b n => k.a b (a b n)
theorem Alc.fresh {N : Addr → Prop} {H : Hp} {r : Addr} (a : Alc N H) (h : H r = none) : ¬ N r := fun n => a r n h
theorem Alc.and {N : Addr → Prop} {H : Hp} {D : Addr} (a : Alc N H) (h : H D ≠ none) : Alc (And1 N D) H := fun b n => by
  rcases n with n | n
  · exact a b n
  · rw [n]; exact h
theorem alc_emp {H : Hp} : Alc Emp H := fun _ h => h.elim
section
variable {C : Addr} {N M : Addr → Prop} {H H' : Hp}
theorem At.keep {v : V} {d : Dat} (h : At C N H v d) (k : Keep N H H') : At C N H' v d := by
  induction h with
  | non => exact .non
  | bl b => exact .bl b
  | int i => exact .int i
  | str s => exact .str s
  | rat h n => obtain ⟨dx, h⟩ := h; exact .rat ⟨dx, k.k _ _ h n⟩ n
  | tup h n l e ih => exact .tup (k.k _ _ h n) n l ih
  | lst h n l e ih => exact .lst (k.k _ _ h n) n l ih
  | sq h n l e ih => exact .sq (h.imp (fun h => k.k _ _ h n) fun h => k.k _ _ h n) n l ih
theorem At.same {v : V} {d : Dat} (h : At C N H v d) (s : Same H H') : At C N H' v d := h.keep (Same.keep s)
/-- a set that holds no more of what is there -/
theorem At.grow {v : V} {d : Dat} (h : At C N H v d) (s : ∀ b, M b → N b ∨ H b = none) : At C M H v d := by
  induction h with
  | non => exact .non
  | bl b => exact .bl b
  | int i => exact .int i
  | str s => exact .str s
  | rat h n =>
    refine .rat h fun z => ?_
    rcases s _ z with y | y
    · exact n y
    · obtain ⟨dx, h⟩ := h; rw [y] at h; cases h
  | tup h n l e ih =>
    refine .tup h (fun z => ?_) l ih
    rcases s _ z with y | y
    · exact n y
    · rw [y] at h; cases h
  | lst h n l e ih =>
    refine .lst h (fun z => ?_) l ih
    rcases s _ z with y | y
    · exact n y
    · rw [y] at h; cases h
  | sq h n l e ih =>
    refine .sq h (fun z => ?_) l ih
    rcases s _ z with y | y
    · exact n y
    · rw [y] at h; rcases h with h | h <;> cases h
theorem At.less {v : V} {d : Dat} (h : At C N H v d) (s : ∀ b, M b → N b) : At C M H v d := h.grow fun b z => .inl (s b z)
/-- with a new list in the set -/
theorem At.and {v : V} {d : Dat} {D : Addr} (h : At C N H v d) (f : H D = none) : At C (And1 N D) H v d := h.grow fun b z => z.imp id fun e => by rw [e]; exact f
theorem At.drop {v : V} {d : Dat} {D : Addr} (h : At C (And1 N D) H v d) : At C N H v d := h.less fun _ z => .inl z
theorem At.notin {p : Addr} {d : Dat} (h : At C N H (.ref p) d) : ¬ N p := by
  cases h <;> assumption
theorem At.there {p : Addr} {d : Dat} (h : At C N H (.ref p) d) : H p ≠ none := by
  cases h with
  | rat h n => obtain ⟨dx, h⟩ := h; rw [h]; intro z; cases z
  | tup h n l e => rw [h]; intro z; cases z
  | lst h n l e => rw [h]; intro z; cases z
  | sq h n l e => rcases h with h | h <;> (rw [h]; intro z; cases z)
theorem At.sqE {p : Addr} {ds : List Dat} (h : At C N H (.ref p) (.sq ds)) : ∃ xs, (H p = some (.tup xs) ∨ H p = some (.lst xs)) ∧ xs.length = ds.length ∧ ∀ (i : Nat) (x : V) (d : Dat), xs[i]? = some x → ds[i]? = some d → At C N H x d := by
  cases h with
  | sq h n l e => exact ⟨_, h, l, e⟩
theorem At.sqV {v : V} {ds : List Dat} (h : At C N H v (.sq ds)) : ∃ p, v = .ref p := by cases h; exact ⟨_, rfl⟩
/-- a list or a tuple is one of either kind -/
inductive Le : Dat → Dat → Prop where
  | refl (d : Dat) : Le d d
  | tupS {ds es : List Dat} (l : ds.length = es.length) (h : ∀ (i : Nat) (d e : Dat), ds[i]? = some d → es[i]? = some e → Le d e) : Le (.tup ds) (.sq es)
  | lstS {ds es : List Dat} (l : ds.length = es.length) (h : ∀ (i : Nat) (d e : Dat), ds[i]? = some d → es[i]? = some e → Le d e) : Le (.lst ds) (.sq es)
theorem At.weak {d e : Dat} (le : Le d e) : ∀ {v : V}, At C N H v d → At C N H v e := by
  induction le with
  | refl d => exact fun h => h
  | tupS l h ih =>
    intro v hv
    obtain ⟨p, rfl⟩ := (by cases hv; exact ⟨_, rfl⟩ : ∃ p, v = .ref p)
    cases hv with
    | tup h1 n l1 e1 =>
      refine .sq (.inl h1) n (by rw [l1, l]) fun i x d hx hd => ?_
      have lt : i < _ := (List.getElem?_eq_some_iff.mp hd).1
      have hd2 := List.getElem?_eq_getElem (l := _) (show i < _ from by rw [← l] at lt; exact lt)
      exact ih i _ d hd2 hd (e1 i x _ hx hd2)
  | lstS l h ih =>
    intro v hv
    obtain ⟨p, rfl⟩ := (by cases hv; exact ⟨_, rfl⟩ : ∃ p, v = .ref p)
    cases hv with
    | lst h1 n l1 e1 =>
      refine .sq (.inr h1) n (by rw [l1, l]) fun i x d hx hd => ?_
      have lt : i < _ := (List.getElem?_eq_some_iff.mp hd).1
      have hd2 := List.getElem?_eq_getElem (l := _) (show i < _ from by rw [← l] at lt; exact lt)
      exact ih i _ d hd2 hd (e1 i x _ hx hd2)
theorem At.tupE {p : Addr} {ds : List Dat} (h : At C N H (.ref p) (.tup ds)) : ∃ xs, H p = some (.tup xs) ∧ xs.length = ds.length ∧ ∀ (i : Nat) (x : V) (d : Dat), xs[i]? = some x → ds[i]? = some d → At C N H x d := by
  cases h with
  | tup h n l e => exact ⟨_, h, l, e⟩
theorem At.lstE {p : Addr} {ds : List Dat} (h : At C N H (.ref p) (.lst ds)) : ∃ xs, H p = some (.lst xs) ∧ xs.length = ds.length ∧ ∀ (i : Nat) (x : V) (d : Dat), xs[i]? = some x → ds[i]? = some d → At C N H x d := by
  cases h with
  | lst h n l e => exact ⟨_, h, l, e⟩
theorem At.tupV {v : V} {ds : List Dat} (h : At C N H v (.tup ds)) : ∃ p, v = .ref p := by cases h; exact ⟨_, rfl⟩
theorem At.lstV {v : V} {ds : List Dat} (h : At C N H v (.lst ds)) : ∃ p, v = .ref p := by cases h; exact ⟨_, rfl⟩
theorem At.ratV {v : V} {q : Rat} (h : At C N H v (.rat q)) : ∃ p, v = .ref p ∧ RatAt C H p q.num (q.den : Int) := by cases h with | rat h n => exact ⟨_, rfl, h⟩
theorem At.intV {v : V} {i : Int} (h : At C N H v (.int i)) : v = .int i := by cases h; rfl
theorem At.strV {v : V} {s : Str} (h : At C N H v (.str s)) : v = .str s := by cases h; rfl
/-- the items, by a function -/
def rng (n : Nat) (f : Nat → Dat) : List Dat := (List.range n).map f
theorem rng_len {n : Nat} {f : Nat → Dat} : (rng n f).length = n := by unfold rng; rw [List.length_map, List.length_range]
theorem rng_get {n i : Nat} {f : Nat → Dat} (h : i < n) : (rng n f)[i]? = some (f i) := by
  unfold rng
  rw [List.getElem?_map, List.getElem?_range h]
  rfl
theorem rng_lt {n i : Nat} {f : Nat → Dat} {d : Dat} (h : (rng n f)[i]? = some d) : i < n ∧ d = f i := by
  have hi : i < n := by
    have := (List.getElem?_eq_some_iff.mp h).1
    rw [rng_len] at this
    exact this
  rw [rng_get hi] at h
  exact ⟨hi, (Option.some.inj h).symm⟩
theorem rng_succ {n : Nat} {f : Nat → Dat} : rng (n + 1) f = rng n f ++ [f n] := by
  unfold rng
  rw [List.range_succ, List.map_append]
  rfl
theorem rng_ext {n : Nat} {f g : Nat → Dat} (h : ∀ i, i < n → f i = g i) : rng n f = rng n g := List.map_congr_left fun i hi => h i (List.mem_range.mp hi)
theorem At.tupR {p : Addr} {n : Nat} {f : Nat → Dat} (h : At C N H (.ref p) (.tup (rng n f))) : ∃ xs, H p = some (.tup xs) ∧ xs.length = n ∧ ∀ i, i < n → ∃ x, xs[i]? = some x ∧ At C N H x (f i) := by
  obtain ⟨xs, hp, l, e⟩ := h.tupE
  rw [rng_len] at l
  refine ⟨xs, hp, l, fun i hi => ?_⟩
  have hx : xs[i]? = some (xs[i]'(by omega)) := List.getElem?_eq_getElem _
  exact ⟨_, hx, e i _ _ hx (rng_get hi)⟩
theorem At.lstR {p : Addr} {n : Nat} {f : Nat → Dat} (h : At C N H (.ref p) (.lst (rng n f))) : ∃ xs, H p = some (.lst xs) ∧ xs.length = n ∧ ∀ i, i < n → ∃ x, xs[i]? = some x ∧ At C N H x (f i) := by
  obtain ⟨xs, hp, l, e⟩ := h.lstE
  rw [rng_len] at l
  refine ⟨xs, hp, l, fun i hi => ?_⟩
  have hx : xs[i]? = some (xs[i]'(by omega)) := List.getElem?_eq_getElem _
  exact ⟨_, hx, e i _ _ hx (rng_get hi)⟩
theorem At.sqR {p : Addr} {n : Nat} {f : Nat → Dat} (h : At C N H (.ref p) (.sq (rng n f))) : ∃ xs, (H p = some (.tup xs) ∨ H p = some (.lst xs)) ∧ xs.length = n ∧ ∀ i, i < n → ∃ x, xs[i]? = some x ∧ At C N H x (f i) := by
  obtain ⟨xs, hp, l, e⟩ := h.sqE
  rw [rng_len] at l
  refine ⟨xs, hp, l, fun i hi => ?_⟩
  have hx : xs[i]? = some (xs[i]'(by omega)) := List.getElem?_eq_getElem _
  exact ⟨_, hx, e i _ _ hx (rng_get hi)⟩
theorem Le.tupR {n : Nat} {f g : Nat → Dat} (h : ∀ i, i < n → Le (f i) (g i)) : Le (.tup (rng n f)) (.sq (rng n g)) := .tupS (by rw [rng_len, rng_len]) fun i d e hd he => by
  obtain ⟨hi, rfl⟩ := rng_lt hd
  obtain ⟨_, rfl⟩ := rng_lt he
  exact h i hi
theorem Le.lstR {n : Nat} {f g : Nat → Dat} (h : ∀ i, i < n → Le (f i) (g i)) : Le (.lst (rng n f)) (.sq (rng n g)) := .lstS (by rw [rng_len, rng_len]) fun i d e hd he => by
  obtain ⟨hi, rfl⟩ := rng_lt hd
  obtain ⟨_, rfl⟩ := rng_lt he
  exact h i hi
/-- a new tuple of what is there -/
theorem At.newT {xs : List V} {ds : List Dat} {r : Addr} (a : Alc N H) (f : H r = none) (l : xs.length = ds.length) (e : ∀ (i : Nat) (x : V) (d : Dat), xs[i]? = some x → ds[i]? = some d → At C N H x d) : At C N (upd H r (.tup xs)) (.ref r) (.tup ds) :=
  .tup upd_same (a.fresh f) l fun i x d hx hd => (e i x d hx hd).keep (Keep.new f)
theorem At.newL {xs : List V} {ds : List Dat} {r : Addr} (a : Alc N H) (f : H r = none) (l : xs.length = ds.length) (e : ∀ (i : Nat) (x : V) (d : Dat), xs[i]? = some x → ds[i]? = some d → At C N H x d) : At C N (upd H r (.lst xs)) (.ref r) (.lst ds) :=
  .lst upd_same (a.fresh f) l fun i x d hx hd => (e i x d hx hd).keep (Keep.new f)
theorem items0 : ∀ (i : Nat) (x : V) (d : Dat), ([] : List V)[i]? = some x → ([] : List Dat)[i]? = some d → At C N H x d := fun i x d h _ => by simp at h
theorem items1 {x : V} {d : Dat} (h : At C N H x d) : ∀ (i : Nat) (y : V) (e : Dat), [x][i]? = some y → [d][i]? = some e → At C N H y e := fun i y e h1 h2 => by
  match i with
  | 0 => cases h1; cases h2; exact h
  | i + 1 => simp at h1
theorem itemsC {x : V} {d : Dat} {xs : List V} {ds : List Dat} (h : At C N H x d) (t : ∀ (i : Nat) (y : V) (e : Dat), xs[i]? = some y → ds[i]? = some e → At C N H y e) : ∀ (i : Nat) (y : V) (e : Dat), (x :: xs)[i]? = some y → (d :: ds)[i]? = some e → At C N H y e := fun i y e h1 h2 => by
  match i with
  | 0 => cases h1; cases h2; exact h
  | i + 1 => exact t i y e h1 h2
/-! ### a list that a comprehension or a loop builds -/
structure Bld (C : Addr) (M N : Addr → Prop) (H0 : Hp) (D : Addr) (ds : List Dat) (H2 : Hp) : Prop where
  xs : ∃ xs, H2 D = some (.lst xs) ∧ xs.length = ds.length ∧ ∀ (i : Nat) (x : V) (d : Dat), xs[i]? = some x → ds[i]? = some d → At C (And1 N D) H2 x d
  k : Keep M H0 H2
theorem bld0 {D : Addr} (f : H D = none) : Bld C M N H D [] (upd H D (.lst [])) := ⟨⟨[], upd_same, rfl, fun i x d h => by simp at h⟩, Keep.new f⟩
theorem Bld.step {H0 H2 H3 : Hp} {D : Addr} {ds : List Dat} {x : V} {d : Dat} (B : Bld C M N H0 D ds H2) (f : H0 D = none) (k : Keep M H2 H3) (s : ∀ b, M b → N b) (nD : ¬ M D) (h : At C (And1 N D) H3 x d) :
    ∃ acc, H3 D = some (.lst acc) ∧ acc.length = ds.length ∧ Bld C M N H0 D (ds ++ [d]) (upd H3 D (.lst (acc ++ [x]))) := by
  obtain ⟨xs, hD, l, e⟩ := B.xs
  have ku : Keep (And1 N D) H3 (upd H3 D (.lst (xs ++ [x]))) := Keep.upd (.inr rfl)
  refine ⟨xs, k.k _ _ hD nD, l, ⟨⟨xs ++ [x], upd_same, by rw [List.length_append, List.length_append, l]; rfl, fun i y z h1 h2 => ?_⟩, ⟨fun b o hb n => ?_, fun b hb => ?_⟩⟩⟩
  · by_cases lt : i < xs.length
    · rw [List.getElem?_append_left lt] at h1
      rw [List.getElem?_append_left (by omega)] at h2
      exact ((e i y z h1 h2).keep (k.more fun b z => .inl (s b z))).keep ku
    · rw [List.getElem?_append_right (by omega)] at h1
      rw [List.getElem?_append_right (by omega), ← l] at h2
      exact (items1 h _ _ _ h1 h2).keep ku
  · rw [upd_ne (ne_of_none hb f)]
    exact k.k _ _ (B.k.k _ _ hb n) n
  · exact (Keep.upd (N := And1 N D) (.inr rfl)).a b (k.a b (B.k.a b hb))
theorem Bld.done {H0 H2 : Hp} {D : Addr} {ds : List Dat} (B : Bld C M N H0 D ds H2) (n : ¬ N D) : At C N H2 (.ref D) (.lst ds) := by
  obtain ⟨xs, hD, l, e⟩ := B.xs
  exact .lst hD n l fun i x d h1 h2 => (e i x d h1 h2).drop
/-- what was there before stays as it is while the list is built -/
theorem Bld.old {H0 H2 : Hp} {D : Addr} {ds : List Dat} {v : V} {d : Dat} (B : Bld C M N H0 D ds H2) (f : H0 D = none) (s : ∀ b, M b → N b) (h : At C N H0 v d) : At C (And1 N D) H2 v d := (h.and f).keep (B.k.more fun b z => .inl (s b z))
theorem Bld.alc {H0 H2 : Hp} {D : Addr} {ds : List Dat} (B : Bld C M N H0 D ds H2) (a : Alc N H0) : Alc (And1 N D) H2 := (a.keep B.k).and (by obtain ⟨xs, hD, _⟩ := B.xs; rw [hD]; intro z; cases z)
end
/-! ### rows, tables, pairs -/
def ratR (w : Nat) (u : Nat → Rat) : Dat := .tup (rng w fun j => .rat (u j))
def ratT (h w : Nat) (U : Nat → Nat → Rat) : Dat := .tup (rng h fun i => ratR w (U i))
def prD (q : Rat) : Dat := .tup [.int q.num, .int (q.den : Int)]
def prL (w : Nat) (u : Nat → Rat) : Dat := .lst (rng w fun j => prD (u j))
def prT (h w : Nat) (U : Nat → Nat → Rat) : Dat := .lst (rng h fun i => prL w (U i))
def intL (w : Nat) (z : Nat → Int) : Dat := .lst (rng w fun j => .int (z j))
theorem At.pair {C : Addr} {N : Addr → Prop} {H : Hp} {v : V} {q : Rat} (h : At C N H v (prD q)) : ∃ p, v = .ref p ∧ PairAt H p q.num (q.den : Int) ∧ ¬ N p := by
  obtain ⟨p, rfl⟩ := h.tupV
  obtain ⟨xs, hp, l, e⟩ := h.tupE
  match xs, l with
  | [x, y], _ =>
    have h0 := (e 0 x _ rfl rfl).intV
    have h1 := (e 1 y _ rfl rfl).intV
    subst h0 h1
    exact ⟨p, rfl, hp, h.notin⟩
theorem at_pair {C : Addr} {N : Addr → Prop} {H : Hp} {p : Addr} {q : Rat} (h : PairAt H p q.num (q.den : Int)) (n : ¬ N p) : At C N H (.ref p) (prD q) := .tup h n rfl (itemsC (.int _) (items1 (.int _)))
theorem pe_fldK {X : Cx} {K : PySem.W.Frag} (hK : X.K = K) {e : Expr} {f : Str} {pos : Pos} {ta : TE} (he : PE X e ta) (hb : attributeBase e f X.env (eval e X.env) = eval e X.env) : PE X (.Attribute e f pos) (tFld K ta f) := by
  subst hK
  exact pe_fld he hb
theorem pi_listK {X : Cx} {tg : Expr} {K : PySem.W.Frag} (hK : X.K = K) {l : Expr} {tl : TE} (hl : PE X l tl) : PI X tg l (iList K tl) := by
  subst hK
  exact pi_list hl
theorem pi_tupK {X : Cx} {tg : Expr} {K : PySem.W.Frag} (hK : X.K = K) {l : Expr} {tl : TE} (hl : PE X l tl) : PI X tg l (iTup K tl) := by
  subst hK
  exact pi_tup hl
theorem itF {b : Bool} {A B : Prop} (h : b = false) (x : B) : if b = true then A else B := by
  subst h
  exact iteF x
theorem itT {b : Bool} {A B : Prop} (h : b = true) (x : A) : if b = true then A else B := by
  subst h
  exact iteT x
theorem ixN_at {n j : Nat} {z : Int} (e : z = (j : Int)) (h : j < n) : ixN n z = some j := by
  subst e
  unfold ixN
  rw [if_pos (by omega), if_pos (by omega)]
  rfl
theorem small_of {n m : Nat} (h : n = m) (l : m ≤ 1000) : n < sizeLine := small1000 (by omega)
end RX

set_option Elab.async false
set_option maxRecDepth 100000
namespace RX
open PySem L2
open RQ (Bt)
abbrev PrQ (H : Hp) (p : Addr) (q : Rat) : Prop := PairAt H p q.num (q.den : Int)
theorem pr_of {n d : Int} (hd : 0 < d) (c : Nat.Coprime n.natAbs d.natAbs) : ∃ q : Rat, q.num = n ∧ (q.den : Int) = d :=
  ⟨⟨n, d.natAbs, by omega, c⟩, rfl, by show ((d.natAbs : Nat) : Int) = d; omega⟩
theorem den_ne (q : Rat) : (q.den : Int) ≠ 0 := by have := q.den_nz; omega
theorem FeedAt.there {H : Hp} {a cl : Addr} (f : FeedAt H a cl) : H a ≠ none := by
  obtain ⟨xs, h⟩ := f.lst
  rw [h]; intro z; cases z
theorem FeedAt.ne_new {H : Hp} {a cl r : Addr} (h : FeedAt H a cl) (n : H r = none) : r ≠ a ∧ r ≠ cl := by
  obtain ⟨cs, i, p, s, f⟩ := h
  exact ⟨(ne_of_none f.hA n).symm, (ne_of_none f.hC n).symm⟩
/-! ### texts -/
def cl (s : Str) : List Nat := s.cps.toList
theorem cl_app (a b : Str) : cl (a ++ b) = cl a ++ cl b := by
  unfold cl
  rw [PySem.Str.cps_append, Array.toList_append]
theorem cl_len (a : Str) : (cl a).length = a.length := rfl
theorem cl_inj {a b : Str} (h : cl a = cl b) : a = b := by
  cases a; cases b
  congr 1
  exact Array.ext' h
theorem str_len {a b : Str} : (a ++ b).length = a.length + b.length := Array.size_append
/-- the text of n / d -/
def txt (n d : Int) : Str := if d = 1 then toString n else (toString n ++ "/") ++ toString d
def NumB (q : Rat) : Prop := Bt 140 q.num ∧ Bt 140 (q.den : Int)
theorem txlen {x : Int} (h : Bt 140 x) : (toString x : Str).length ≤ 142 := by
  show (Str.ofString (toString x)).length ≤ 142
  rw [PySem.ofString_length]
  exact PySem.int_text_length_le (k := 141) (by decide) (Nat.lt_of_le_of_lt h.log (by decide))
theorem txt_len {q : Rat} (h : NumB q) : (txt q.num q.den).length ≤ 290 := by
  have l1 := txlen h.1
  have l2 := txlen h.2
  unfold txt
  split
  · omega
  · rw [str_len, str_len]
    have : ("/" : Str).length = 1 := rfl
    omega
/-! ### terms -/
inductive Tm where
  | num (q : Rat)
  | letter (c : Str)
  | plus (a b : Tm)
  | row (a b : Tm)
  | star (a : Tm)
def brk (b : Bool) (s : Str) : Str := if b then ("(" ++ s) ++ ")" else s
theorem brk_len (b : Bool) (s : Str) : (brk b s).length ≤ s.length + 2 := by
  unfold brk
  split
  · rw [str_len, str_len]
    have e1 : ("(" : Str).length = 1 := rfl
    have e2 : (")" : Str).length = 1 := rfl
    omega
  · omega
namespace Tm
def ok : Tm → Prop
  | num q => NumB q
  | letter c => c.length = 1
  | plus a b => a.ok ∧ b.ok
  | row a b => a.ok ∧ b.ok
  | star a => a.ok
def sz : Tm → Nat
  | num _ => 1
  | letter _ => 1
  | plus a b => a.sz + b.sz + 1
  | row a b => a.sz + b.sz + 1
  | star a => a.sz + 1
def own : Tm → Dat
  | num q => .tup [.str "number", prD q]
  | letter c => .tup [.str "letter", .str c]
  | plus a b => .tup [.str "plus", a.own, b.own]
  | row a b => .tup [.str "row", a.own, b.own]
  | star a => .tup [.str "star", a.own]
def made : Tm → Dat
  | num q => .tup [.str "number", .rat q]
  | letter c => .tup [.str "letter", .str c]
  | plus a b => .tup [.str "plus", a.made, b.made]
  | row a b => .tup [.str "row", a.made, b.made]
  | star a => .tup [.str "star", a.made]
def isP : Tm → Bool
  | plus _ _ => true
  | _ => false
def isPR : Tm → Bool
  | plus _ _ => true
  | row _ _ => true
  | _ => false
def kind : Tm → Str
  | num _ => "number"
  | letter _ => "letter"
  | plus _ _ => "plus"
  | row _ _ => "row"
  | star _ => "star"
def text : Tm → Str
  | num q => txt q.num q.den
  | letter c => c
  | plus a b => (a.text ++ "+") ++ brk b.isP b.text
  | row a b => (brk a.isP a.text ++ ".") ++ brk b.isPR b.text
  | star a => brk a.isPR a.text ++ "*"
theorem sz_pos : ∀ t : Tm, 1 ≤ t.sz
  | num _ => Nat.le_refl _
  | letter _ => Nat.le_refl _
  | plus _ _ => Nat.le_add_left _ _
  | row _ _ => Nat.le_add_left _ _
  | star _ => Nat.le_add_left _ _
theorem text_len : ∀ t : Tm, t.ok → t.text.length ≤ 300 * t.sz
  | num q, h => Nat.le_trans (txt_len h) (by show 290 ≤ 300 * 1; decide)
  | letter c, h => by
    show c.length ≤ 300 * 1
    have : c.length = 1 := h
    omega
  | plus a b, h => by
    have ha := text_len a h.1
    have hb := text_len b h.2
    have := brk_len b.isP b.text
    show ((a.text ++ "+") ++ brk b.isP b.text).length ≤ 300 * (a.sz + b.sz + 1)
    rw [str_len, str_len]
    have e1 : ("+" : Str).length = 1 := rfl
    omega
  | row a b, h => by
    have ha := text_len a h.1
    have hb := text_len b h.2
    have := brk_len b.isPR b.text
    have := brk_len a.isP a.text
    show ((brk a.isP a.text ++ ".") ++ brk b.isPR b.text).length ≤ 300 * (a.sz + b.sz + 1)
    rw [str_len, str_len]
    have e1 : ("." : Str).length = 1 := rfl
    omega
  | star a, h => by
    have ha := text_len a h
    have := brk_len a.isPR a.text
    show (brk a.isPR a.text ++ "*").length ≤ 300 * (a.sz + 1)
    rw [str_len]
    have e1 : ("*" : Str).length = 1 := rfl
    omega
end Tm
/-! ### pieces -/
inductive It where
  | s (z : Str)
  | t (u : Tm)
namespace It
def dat : It → Dat
  | s z => .str z
  | t u => u.made
def text : It → Str
  | s z => z
  | t u => u.text
def wt : It → Nat
  | s _ => 1
  | t u => 7 * u.sz
def ok : It → Prop
  | s _ => True
  | t u => u.ok
end It
def held (b : Bool) (t : Tm) : List It := if b then [.s "(", .t t, .s ")"] else [.t t]
def pieces : Tm → List It
  | .num q => [.s (txt q.num q.den)]
  | .letter c => [.s c]
  | .plus a b => [.t a, .s "+"] ++ held b.isP b
  | .row a b => (held a.isP a ++ [.s "."]) ++ held b.isPR b
  | .star a => held a.isPR a ++ [.s "*"]
def cat (l : List It) : List Nat := (l.map fun i => cl i.text).flatten
def wts (l : List It) : Nat := (l.map It.wt).sum
theorem cat_app (l m : List It) : cat (l ++ m) = cat l ++ cat m := by
  unfold cat
  rw [List.map_append, List.flatten_append]
theorem wts_app (l m : List It) : wts (l ++ m) = wts l + wts m := by
  unfold wts
  rw [List.map_append, List.sum_append_nat]
theorem wts_rev (l : List It) : wts l.reverse = wts l := by
  induction l with
  | nil => rfl
  | cons a l ih =>
    rw [List.reverse_cons, wts_app, ih]
    show wts l + (a.wt + 0) = a.wt + wts l
    omega
theorem cat_held (b : Bool) (t : Tm) : cat (held b t) = cl (brk b t.text) := by
  unfold held brk
  cases b with
  | true =>
    rw [if_pos rfl, if_pos rfl, cl_app, cl_app]
    show cl _ ++ (cl _ ++ (cl _ ++ [])) = _
    rw [List.append_nil, List.append_assoc]
    rfl
  | false =>
    rw [if_neg Bool.false_ne_true, if_neg Bool.false_ne_true]
    show cl _ ++ [] = _
    rw [List.append_nil]
    rfl
theorem cat_one (i : It) : cat [i] = cl i.text := List.append_nil _
theorem cat_pieces : ∀ t : Tm, cat (pieces t) = cl t.text
  | .num q => cat_one _
  | .letter c => cat_one _
  | .plus a b => by
    show cat ([It.t a, .s "+"] ++ held b.isP b) = cl ((a.text ++ "+") ++ brk b.isP b.text)
    rw [cat_app, cat_held, cl_app, cl_app]
    show (cl _ ++ (cl _ ++ [])) ++ _ = _
    rw [List.append_nil]
    rfl
  | .row a b => by
    show cat ((held a.isP a ++ [It.s "."]) ++ held b.isPR b) = cl ((brk a.isP a.text ++ ".") ++ brk b.isPR b.text)
    rw [cat_app, cat_app, cat_held, cat_held, cl_app, cl_app, cat_one]
    rfl
  | .star a => by
    show cat (held a.isPR a ++ [It.s "*"]) = cl (brk a.isPR a.text ++ "*")
    rw [cat_app, cat_held, cl_app, cat_one]
    rfl
theorem wts_held (b : Bool) (t : Tm) : wts (held b t) ≤ 7 * t.sz + 2 := by
  unfold held
  split
  · show 1 + (7 * t.sz + (1 + 0)) ≤ _
    omega
  · show 7 * t.sz + 0 ≤ _
    omega
theorem wts_pieces : ∀ t : Tm, wts (pieces t) < 7 * t.sz
  | .num q => by show 1 + 0 < 7 * 1; decide
  | .letter c => by show 1 + 0 < 7 * 1; decide
  | .plus a b => by
    show wts ([It.t a, .s "+"] ++ held b.isP b) < 7 * (a.sz + b.sz + 1)
    have := wts_held b.isP b
    rw [wts_app]
    show 7 * a.sz + (1 + 0) + _ < _
    omega
  | .row a b => by
    show wts ((held a.isP a ++ [It.s "."]) ++ held b.isPR b) < 7 * (a.sz + b.sz + 1)
    have := wts_held b.isPR b
    have := wts_held a.isP a
    rw [wts_app, wts_app]
    show _ + (1 + 0) + _ < _
    omega
  | .star a => by
    show wts (held a.isPR a ++ [It.s "*"]) < 7 * (a.sz + 1)
    have := wts_held a.isPR a
    rw [wts_app]
    show _ + (1 + 0) < _
    omega
theorem ok_held {b : Bool} {t : Tm} (h : t.ok) : ∀ i ∈ held b t, It.ok i := by
  unfold held
  intro i hi
  split at hi
  · simp only [List.mem_cons, List.not_mem_nil, or_false] at hi
    rcases hi with rfl | rfl | rfl
    · trivial
    · exact h
    · trivial
  · simp only [List.mem_cons, List.not_mem_nil, or_false] at hi
    subst hi
    exact h
theorem ok_pieces : ∀ t : Tm, t.ok → ∀ i ∈ pieces t, It.ok i
  | .num q, _, i, hi => by
    have hi : i ∈ [It.s (txt q.num q.den)] := hi
    simp only [List.mem_cons, List.not_mem_nil, or_false] at hi
    subst hi
    trivial
  | .letter c, _, i, hi => by
    have hi : i ∈ [It.s c] := hi
    simp only [List.mem_cons, List.not_mem_nil, or_false] at hi
    subst hi
    trivial
  | .plus a b, h, i, hi => by
    have hi : i ∈ [It.t a, .s "+"] ++ held b.isP b := hi
    rcases List.mem_append.mp hi with hi | hi
    · simp only [List.mem_cons, List.not_mem_nil, or_false] at hi
      rcases hi with rfl | rfl
      · exact h.1
      · trivial
    · exact ok_held h.2 i hi
  | .row a b, h, i, hi => by
    have hi : i ∈ (held a.isP a ++ [It.s "."]) ++ held b.isPR b := hi
    rcases List.mem_append.mp hi with hi | hi
    · rcases List.mem_append.mp hi with hi | hi
      · exact ok_held h.1 i hi
      · simp only [List.mem_cons, List.not_mem_nil, or_false] at hi
        subst hi
        trivial
    · exact ok_held h.2 i hi
  | .star a, h, i, hi => by
    have hi : i ∈ held a.isPR a ++ [It.s "*"] := hi
    rcases List.mem_append.mp hi with hi | hi
    · exact ok_held (t := a) h i hi
    · simp only [List.mem_cons, List.not_mem_nil, or_false] at hi
      subst hi
      trivial
/-! ### what stands at a value -/
section
variable {C : Addr} {N : Addr → Prop} {H : Hp}
theorem at_one {v : V} {k : Str} {d : Dat} (h : At C N H v (.tup [.str k, d])) : ∃ p x, v = .ref p ∧ H p = some (.tup [.str k, x]) ∧ At C N H x d ∧ ¬ N p := by
  obtain ⟨p, rfl⟩ := h.tupV
  obtain ⟨xs, hp, l, e⟩ := h.tupE
  match xs, l with
  | [v0, v1], _ =>
    have h0 := (e 0 v0 _ rfl rfl).strV
    subst h0
    exact ⟨p, v1, rfl, hp, e 1 v1 _ rfl rfl, h.notin⟩
theorem at_two {v : V} {k : Str} {d e : Dat} (h : At C N H v (.tup [.str k, d, e])) : ∃ p x y, v = .ref p ∧ H p = some (.tup [.str k, x, y]) ∧ At C N H x d ∧ At C N H y e ∧ ¬ N p := by
  obtain ⟨p, rfl⟩ := h.tupV
  obtain ⟨xs, hp, l, f⟩ := h.tupE
  match xs, l with
  | [v0, v1, v2], _ =>
    have h0 := (f 0 v0 _ rfl rfl).strV
    subst h0
    exact ⟨p, v1, v2, rfl, hp, f 1 v1 _ rfl rfl, f 2 v2 _ rfl rfl, h.notin⟩
theorem mk_one {x : V} {k : Str} {d : Dat} {r : Addr} (al : Alc N H) (nr : H r = none) (h : At C N H x d) : At C N (upd H r (.tup [.str k, x])) (.ref r) (.tup [.str k, d]) := At.newT al nr rfl (itemsC (.str _) (items1 h))
theorem mk_two {x y : V} {k : Str} {d e : Dat} {r : Addr} (al : Alc N H) (nr : H r = none) (h : At C N H x d) (h2 : At C N H y e) : At C N (upd H r (.tup [.str k, x, y])) (.ref r) (.tup [.str k, d, e]) := At.newT al nr rfl (itemsC (.str _) (itemsC h (items1 h2)))
theorem own_ref {v : V} : ∀ {t : Tm}, At C N H v t.own → ∃ p, v = .ref p
  | .num _, h => h.tupV
  | .letter _, h => h.tupV
  | .plus _ _, h => h.tupV
  | .row _ _, h => h.tupV
  | .star _, h => h.tupV
theorem made_ref {v : V} : ∀ {t : Tm}, At C N H v t.made → ∃ p, v = .ref p
  | .num _, h => h.tupV
  | .letter _, h => h.tupV
  | .plus _ _, h => h.tupV
  | .row _ _, h => h.tupV
  | .star _, h => h.tupV
/-- the first of a term is its kind -/
theorem own_head {p : Addr} : ∀ {t : Tm}, At C N H (.ref p) t.own → ∃ xs, H p = some (.tup xs) ∧ xs[0]? = some (.str t.kind)
  | .num _, h => by obtain ⟨_, _, e, hp, _⟩ := at_one h; cases e; exact ⟨_, hp, rfl⟩
  | .letter _, h => by obtain ⟨_, _, e, hp, _⟩ := at_one h; cases e; exact ⟨_, hp, rfl⟩
  | .plus _ _, h => by obtain ⟨_, _, _, e, hp, _⟩ := at_two h; cases e; exact ⟨_, hp, rfl⟩
  | .row _ _, h => by obtain ⟨_, _, _, e, hp, _⟩ := at_two h; cases e; exact ⟨_, hp, rfl⟩
  | .star _, h => by obtain ⟨_, _, e, hp, _⟩ := at_one h; cases e; exact ⟨_, hp, rfl⟩
theorem made_head {p : Addr} : ∀ {t : Tm}, At C N H (.ref p) t.made → ∃ xs, H p = some (.tup xs) ∧ xs[0]? = some (.str t.kind)
  | .num _, h => by obtain ⟨_, _, e, hp, _⟩ := at_one h; cases e; exact ⟨_, hp, rfl⟩
  | .letter _, h => by obtain ⟨_, _, e, hp, _⟩ := at_one h; cases e; exact ⟨_, hp, rfl⟩
  | .plus _ _, h => by obtain ⟨_, _, _, e, hp, _⟩ := at_two h; cases e; exact ⟨_, hp, rfl⟩
  | .row _ _, h => by obtain ⟨_, _, _, e, hp, _⟩ := at_two h; cases e; exact ⟨_, hp, rfl⟩
  | .star _, h => by obtain ⟨_, _, e, hp, _⟩ := at_one h; cases e; exact ⟨_, hp, rfl⟩
end
theorem seqT {a b : Str} (h : a = b) : decide (V.str a = V.str b) = true := decide_eq_true (by rw [h])
theorem seqF {a b : Str} (h : ¬ a = b) : decide (V.str a = V.str b) = false := decide_eq_false fun z => h (V.str.inj z)
theorem inP (t : Tm) : inV (.str t.kind) [.str "plus"] = t.isP := by cases t <;> rfl
theorem inPR (t : Tm) : inV (.str t.kind) [.str "plus", .str "row"] = t.isPR := by cases t <;> rfl
theorem at0 {xs : List V} {x : V} (h : xs[0]? = some x) : atI xs 0 = some x := by
  have lt := (List.getElem?_eq_some_iff.mp h).1
  unfold atI ixN
  rw [if_pos (by omega), if_pos (by omega)]
  exact h
end RX

set_option Elab.async false
set_option maxRecDepth 100000
namespace RX
open PySem L2
open RQ (Bt)
abbrev sLeaf : Stmt := topS 18
theorem scLf : FnScope ["feed", "wide", "kind", "above"] ["feed", "wide"] (defScope sLeaf) := ⟨rfl, rfl, rfl, by decide +kernel, rfl, by decide +kernel, by decide +kernel⟩
abbrev sJoin : Stmt := topS 19
theorem scJo : FnScope ["feed", "one", "two"] ["feed", "one", "two"] (defScope sJoin) := ⟨rfl, rfl, rfl, by decide +kernel, rfl, by decide +kernel, by decide +kernel⟩
def spLf (C : Addr) : Sp := fun vs H Q _ => ∃ (N : Addr → Prop) (a cl : Addr) (wd : Int), vs = [.ref a, .int wd] ∧ FeedAt H a cl ∧ 0 ≤ wd ∧ wd ≤ 8 ∧ Alc N H ∧ N a ∧
  ∀ (r : Addr) (t : Tm) (H' : Hp), FeedAt H' a cl → But a H H' → H r = none → At C N H' (.ref r) t.own → t.ok → t.sz = 1 → Q (.ref r) H'
def spJo (C : Addr) : Sp := fun vs H Q _ => ∃ (N : Addr → Prop) (a cl p q : Addr) (t u : Tm), vs = [.ref a, .ref p, .ref q] ∧ FeedAt H a cl ∧ At C N H (.ref p) t.own ∧ At C N H (.ref q) u.own ∧ t.ok ∧ u.ok ∧ Alc N H ∧ N a ∧
  ∀ (r : Addr) (x : Tm) (H' : Hp), FeedAt H' a cl → But a H H' → H r = none → At C N H' (.ref r) x.own → x.ok → x.sz = t.sz + u.sz + 1 → Q (.ref r) H'
section
variable {P : Program} {w : World} {K : PySem.W.Frag} {mg : Str → Option Value} {base : Heap}
theorem sign4 (r : Int) (h0 : 0 ≤ r) (h1 : r < 4) : ∃ c : Nat, atI ("abcd" : Str).cps.toList r = some c := by
  have : r = 0 ∨ r = 1 ∨ r = 2 ∨ r = 3 := by omega
  rcases this with rfl | rfl | rfl | rfl
  · exact ⟨97, rfl⟩
  · exact ⟨98, rfl⟩
  · exact ⟨99, rfl⟩
  · exact ⟨100, rfl⟩
theorem ok_lf {C f fD fG fP : Addr} {fd dD dG dP : FuncData} (F : Fun K "_law_leaf" "_law_leaf" sLeaf f fd) (T : TxtL mg) (cDr : CalN P w K mg base "_law_draw" 1 ["feed", "limit"] spDraw fD dD) (cGr : CalN P w K mg base "_law_great" 2 ["feed", "parts"] spGreat fG dG) (cPa : CalN P w K mg base "_law_pair" 1 ["above", "below"] spPair fP dP) :
    FnOk P w K mg base CX0 3 f fd ["feed", "wide"] (spLf C) := by
  refine F.ok scLf (fun vs H Q E h => ?_) (fun cdv A outer s H vs Q E hr h => ?_)
  · obtain ⟨N, a, cl, wd, rfl, _⟩ := h
    rfl
  · obtain ⟨N, a, cl, wd, rfl, hF, h0, h1, al, na, kk⟩ := h
    have hr1 : Room 1 _ := hr.mono (by decide)
    have hr2 : Room 2 _ := hr
    refine ⟨_, pss_cons (ps_set (i := 2) scLf.nd rfl (.inl rfl) (pe_call cDr.G hr1 rfl cDr.m cDr.kp cDr.b .nil pass0 (pa_cons (pv 0) (pa_cons pe_int pa_nil))))
      (pss_cons (ps_if (pt_cmpR op_lt (pv 2) pe_int (nomark _))
        (pss_one (ps_ret (pe_tup (pa_cons pe_str (pa_cons (pe_ix ix_str pe_str (pe_call cDr.G hr1 rfl cDr.m cDr.kp cDr.b .nil pass0 (pa_cons (pv 0) (pa_cons pe_int pa_nil))) (fun _ _ => rfl)) pa_nil)))))
        pss_nil)
      (pss_cons (ps_if (pt_cmpR op_eq (pv 2) pe_int (nomark _))
        (pss_one (ps_ret (pe_tup (pa_cons pe_str (pa_cons (pe_tup (pa_cons (pe_op op_sub (pe_call cDr.G hr1 rfl cDr.m cDr.kp cDr.b .nil pass0 (pa_cons (pv 0) (pa_cons pe_int pa_nil))) pe_int) (pa_cons pe_int pa_nil))) pa_nil)))))
        pss_nil)
      (pss_cons (ps_if (pt_cmpR op_gt (pv 1) pe_int (nomark _))
        (pss_cons (ps_set (i := 3) scLf.nd rfl (.inl rfl) (pe_op RQ.op_mulH (pe_call cGr.G hr2 rfl cGr.m cGr.kp cGr.b .nil pass0 (pa_cons (pv 0) (pa_cons (pv 1) pa_nil))) (pe_op op_sub pe_int (pe_op RQ.op_mulH pe_int (pe_call cDr.G hr1 rfl cDr.m cDr.kp cDr.b .nil pass0 (pa_cons (pv 0) (pa_cons pe_int pa_nil)))))))
        (pss_one (ps_ret (pe_tup (pa_cons pe_str (pa_cons (pe_call cPa.G hr1 rfl cPa.m cPa.kp cPa.b .nil pass0 (pa_cons (pv 3) (pa_cons (pe_callB (call_max2 rfl) (by rfl) T.max (by decide +kernel) (pa_cons pe_int (pa_cons (pe_call cGr.G hr2 rfl cGr.m cGr.kp cGr.b .nil pass0 (pa_cons (pv 0) (pa_cons (pv 1) pa_nil))) pa_nil))) pa_nil))) pa_nil))))))
        pss_nil)
      (pss_one (ps_ret (pe_tup (pa_cons pe_str (pa_cons (pe_call cPa.G hr1 rfl cPa.m cPa.kp cPa.b .nil pass0 (pa_cons (pe_op op_sub (pe_call cDr.G hr1 rfl cDr.m cDr.kp cDr.b .nil pass0 (pa_cons (pv 0) (pa_cons pe_int pa_nil))) pe_int) (pa_cons (pe_op op_add pe_int (pe_call cDr.G hr1 rfl cDr.m cDr.kp cDr.b .nil pass0 (pa_cons (pv 0) (pa_cons pe_int pa_nil)))) pa_nil))) pa_nil)))))))), ?_⟩
    have bt4 : ∀ {x : Int}, Bt 5 x → Bt 140 x := fun h => h.up (by omega)
    have b1' : Bt 140 1 := show (1 : Int).natAbs < 2 ^ 140 by decide
    have give : ∀ (r : Addr) (n d : Int) (H1 H2 : Hp), H1 = H2 → FeedAt H1 a cl → But a H H1 → PairAt H1 r n d → ¬ N r → 0 < d → Nat.Coprime n.natAbs d.natAbs → Bt 140 n → Bt 140 d → (2 : Nat) ≤ sizeLine ∧ ∀ r2, H1 r2 = none → Q (.ref r2) (upd H1 r2 (.tup [.str "number", .ref r])) := fun r n d H1 H2 _ f b hR nN hd c bn bd => by
      obtain ⟨q, rfl, rfl⟩ := pr_of hd c
      refine ⟨by decide, fun r2 nr => ?_⟩
      have al1 : Alc N H1 := al.keep (Keep.but b na f.there)
      exact kk r2 (.num q) _ (f.same (Same.upd nr)) (b.trans (Same.but (Same.upd nr))) (b.free nr f) (mk_one al1 nr (at_pair hR nN)) ⟨bn, bd⟩ rfl
    have pairs : ∀ (r : Addr) (n d : Int) (H0 H1 : Hp), FeedAt H0 a cl → But a H H0 → Same H0 H1 → H0 r = none → PairAt H1 r (RT.top n d) (RT.bot n d) → 0 < d → Bt 140 n → Bt 140 d → (2 : Nat) ≤ sizeLine ∧ ∀ r2, H1 r2 = none → Q (.ref r2) (upd H1 r2 (.tup [.str "number", .ref r])) := fun r n d H0 H1 f b s nr hR hd bn bd => by
      have d0 : d ≠ 0 := by omega
      have al0 : Alc N H0 := al.keep (Keep.but b na f.there)
      exact give r _ _ H1 H1 rfl (f.same s) (b.trans (Same.but s)) hR (al0.fresh nr) (RT.bot_pos d0) (RT.cop d0) (bn.le (RT.top_le d0)) (bd.le (RT.bot_le d0))
    have md : ∀ {x : Int}, Bt 140 x → Md x := fun h => pw (by decide) h
    refine ⟨_, rfl, a, cl, 4, rfl, hF, by decide, by decide, fun kd H1 _ _ f1 b1 => ?_⟩
    refine ⟨_, rfl, _, _, rfl, rfl, _, rfl, ?_⟩
    refine ite2 (fun _ => ?_) (fun _ => ?_)
    · refine ⟨_, rfl, a, cl, 4, rfl, f1, by decide, by decide, fun x H2 x0 x1 f2 b2 => ?_⟩
      obtain ⟨c, hc⟩ := sign4 x x0 x1
      refine ⟨_, _, _, rfl, rfl, (by decide), hc, (by show 2 ≤ sizeLine; decide), fun r nr => ?_⟩
      have b2 := b1.trans b2
      have al2 : Alc N H2 := al.keep (Keep.but b2 na f2.there)
      exact kk r (.letter ⟨#[c]⟩) _ (f2.same (Same.upd nr)) (b2.trans (Same.but (Same.upd nr))) (b2.free nr f2) (mk_one al2 nr (.str _)) rfl rfl
    refine ⟨_, rfl, rfl, _, rfl, ?_⟩
    refine ite2 (fun _ => ?_) (fun _ => ?_)
    · refine ⟨_, rfl, a, cl, 13, rfl, f1, by decide, by decide, fun x H2 x0 x1 f2 b2 => ⟨_, _, rfl, rfl, (by show 2 ≤ sizeLine; decide), fun r nr => ?_⟩⟩
      have b2 := b1.trans b2
      have al2 : Alc N H2 := al.keep (Keep.but b2 na f2.there)
      exact give r (x - 6) 1 _ _ rfl (f2.same (Same.upd nr)) (b2.trans (Same.but (Same.upd nr))) upd_same (al2.fresh nr) (by decide) (Nat.coprime_one_right _) (bt4 (show (x - 6).natAbs < 2 ^ 5 by omega)) b1'
    refine ⟨_, rfl, _, _, rfl, rfl, _, rfl, ?_⟩
    have one : (1 : Nat) < 2 ^ 140 := by decide
    have gB : ∀ g : Int, 0 ≤ g → g < 100000 ^ wd.toNat → g.natAbs < 2 ^ 136 := fun g g0 g1 => by
      have h2 : (100000 : Nat) ^ wd.toNat ≤ 100000 ^ 8 := Nat.pow_le_pow_right (by decide) (by omega)
      have h3 : (100000 : Nat) ^ 8 < 2 ^ 136 := by decide
      have e : (100000 : Int) ^ wd.toNat = (((100000 : Nat) ^ wd.toNat : Nat) : Int) := by rw [Int.natCast_pow]; rfl
      rw [e] at g1
      omega
    refine ite2 (fun _ => ?_) (fun _ => ?_)
    · refine ⟨_, rfl, _, rfl, a, cl, wd, rfl, f1, h0, by omega, fun g H2 g0 g1 f2 b2 => ?_⟩
      refine ⟨_, rfl, a, cl, 2, rfl, f2, by decide, by decide, fun sg H3 s0 s1 f3 b3 => ?_⟩
      have gb := gB g g0 g1
      refine ⟨_, _, rfl, rfl, ⟨⟨2, by decide, show (2 : Int).natAbs < 2 ^ 2 by decide⟩, ⟨2, by decide, show sg.natAbs < 2 ^ 2 by omega⟩⟩, _, _, rfl, rfl, _, _, rfl, rfl, ⟨⟨136, by decide, gb⟩, ⟨3, by decide, show (1 - 2 * sg).natAbs < 2 ^ 3 by omega⟩⟩, ?_⟩
      have b3 := b1.trans (b2.trans b3)
      refine ⟨_, rfl, _, rfl, _, rfl, a, cl, wd, rfl, f3, h0, by omega, fun e H4 e0 e1 f4 b4 => ?_⟩
      have eb := gB e e0 e1
      have b4 := b3.trans b4
      have p2 : (2 : Nat) ^ 136 < 2 ^ 140 := by decide
      have hx : Bt 140 (g * (1 - 2 * sg)) := by
        have : sg = 0 ∨ sg = 1 := by omega
        unfold Bt
        rcases this with rfl | rfl
        · show (g * (1 - 2 * 0)).natAbs < _; omega
        · show (g * (1 - 2 * 1)).natAbs < _; omega
      have hm : 0 < (if e > 1 then e else 1) ∧ Bt 140 (if e > 1 then e else 1) := by
        unfold Bt
        split <;> omega
      generalize hM : (if e > 1 then e else 1) = m at hm
      refine ⟨_, _, rfl, ?_⟩
      rw [hM]
      refine ⟨_, _, rfl, by omega, md hm.2, fun r H5 s5 nr hR => ?_⟩
      exact pairs r _ _ H4 H5 f4 b4 s5 nr hR hm.1 hx hm.2
    · refine ⟨_, rfl, a, cl, 25, rfl, f1, by decide, by decide, fun x H2 x0 x1 f2 b2 => ⟨_, _, rfl, rfl, ?_⟩⟩
      refine ⟨_, rfl, a, cl, 12, rfl, f2, by decide, by decide, fun y H3 y0 y1 f3 b3 => ⟨_, _, rfl, rfl, ?_⟩⟩
      have b3 := b1.trans (b2.trans b3)
      have by' : Bt 140 (1 + y) := bt4 (show (1 + y).natAbs < 2 ^ 5 by omega)
      refine ⟨_, _, rfl, by omega, md by', fun r H5 s5 nr hR => ?_⟩
      exact pairs r _ _ H3 H5 f3 b3 s5 nr hR (by omega) (bt4 (show (x - 12).natAbs < 2 ^ 5 by omega)) by'
theorem ok_jo {C f fD : Addr} {fd dD : FuncData} (F : Fun K "_law_joined" "_law_joined" sJoin f fd) (cDr : CalN P w K mg base "_law_draw" 1 ["feed", "limit"] spDraw fD dD) :
    FnOk P w K mg base CX0 2 f fd ["feed", "one", "two"] (spJo C) := by
  refine F.ok scJo (fun vs H Q E h => ?_) (fun cdv A outer s H vs Q E hr h => ?_)
  · obtain ⟨N, a, cl, p, q, t, u, rfl, _⟩ := h
    rfl
  · obtain ⟨N, a, cl, p, q, t, u, rfl, hF, hp, hq, okt, oku, al, na, kk⟩ := h
    have hr1 : Room 1 _ := hr
    refine ⟨_, pss_one (ps_ret (pe_tup (pa_cons (pe_ix ix_list (pe_lst (pa_cons pe_str (pa_cons pe_str pa_nil))) (pe_call cDr.G hr1 rfl cDr.m cDr.kp cDr.b .nil pass0 (pa_cons (pv 0) (pa_cons pe_int pa_nil))) (fun _ _ => rfl)) (pa_cons (pv 1) (pa_cons (pv 2) pa_nil))))), ?_⟩
    refine ⟨(by show 2 ≤ sizeLine; decide), fun D nD => ?_⟩
    have sD := Same.upd (o := .lst [.str "plus", .str "row"]) nD
    have nea := (hF.ne_new nD).1
    refine ⟨_, rfl, a, cl, 2, rfl, hF.same sD, by decide, by decide, fun x H2 x0 x1 f2 b2 => ?_⟩
    have hD2 := b2 _ _ (upd_same (H := H) (a := D)) nea
    have b02 : But a H H2 := (Same.but sD).trans b2
    have al2 : Alc N H2 := al.keep (Keep.but b02 na f2.there)
    have k2 : Keep N H H2 := Keep.but b02 na f2.there
    have hx : x = 0 ∨ x = 1 := by omega
    rcases hx with rfl | rfl
    · refine ⟨D, _, 0, _, rfl, rfl, SqL.of hD2, rfl, _, rfl, _, rfl, (by show 3 ≤ sizeLine; decide), fun r nr => ?_⟩
      exact kk r (.plus t u) _ (f2.same (Same.upd nr)) (b02.trans (Same.but (Same.upd nr))) (b02.free nr f2) (mk_two al2 nr (hp.keep k2) (hq.keep k2)) ⟨okt, oku⟩ rfl
    · refine ⟨D, _, 1, _, rfl, rfl, SqL.of hD2, rfl, _, rfl, _, rfl, (by show 3 ≤ sizeLine; decide), fun r nr => ?_⟩
      exact kk r (.row t u) _ (f2.same (Same.upd nr)) (b02.trans (Same.but (Same.upd nr))) (b02.free nr f2) (mk_two al2 nr (hp.keep k2) (hq.keep k2)) ⟨okt, oku⟩ rfl
end
end RX

set_option Elab.async false
set_option maxRecDepth 100000
namespace RX
open PySem L2
open RQ (Bt)
abbrev sChain : Stmt := topS 21
theorem scCh : FnScope ["feed", "wide", "many", "found", "turn", "kind"] ["feed", "wide", "many"] (defScope sChain) := ⟨rfl, rfl, rfl, by decide +kernel, rfl, by decide +kernel, by decide +kernel⟩
abbrev sBush : Stmt := topS 20
theorem scBu : FnScope ["feed", "wide", "items", "turn", "at", "k"] ["feed", "wide"] (defScope sBush) := ⟨rfl, rfl, rfl, by decide +kernel, rfl, by decide +kernel, by decide +kernel⟩
/-- the address alone -/
def K1 (a : Addr) : Addr → Prop := fun b => b = a
theorem Keep.to {a : Addr} {H H' : Hp} (k : Keep (K1 a) H H') : But a H H' := fun b o h n => k.k b o h n
theorem keep_feed {a cl : Addr} {H H' : Hp} (b : But a H H') (f : FeedAt H' a cl) : Keep (K1 a) H H' := Keep.but b rfl f.there
def spCh (C : Addr) : Sp := fun vs H Q _ => ∃ (N : Addr → Prop) (a cl : Addr) (wd : Int) (m : Nat), vs = [.ref a, .int wd, .int (m : Int)] ∧ FeedAt H a cl ∧ 0 ≤ wd ∧ wd ≤ 8 ∧ m ≤ 19 ∧ Alc N H ∧ N a ∧
  ∀ (r : Addr) (t : Tm) (H' : Hp), FeedAt H' a cl → But a H H' → At C N H' (.ref r) t.own → t.ok → t.sz ≤ 59 → Q (.ref r) H'
def spBu (C : Addr) : Sp := fun vs H Q _ => ∃ (N : Addr → Prop) (a cl : Addr) (wd : Int), vs = [.ref a, .int wd] ∧ FeedAt H a cl ∧ 0 ≤ wd ∧ wd ≤ 8 ∧ Alc N H ∧ N a ∧
  ∀ (r : Addr) (t : Tm) (H' : Hp), FeedAt H' a cl → But a H H' → At C N H' (.ref r) t.own → t.ok → t.sz ≤ 59 → Q (.ref r) H'
/-! ### lists of terms -/
def szs (ts : List Tm) : Nat := (ts.map Tm.sz).sum
theorem szs_app (l m : List Tm) : szs (l ++ m) = szs l + szs m := by
  unfold szs
  rw [List.map_append, List.sum_append_nat]
theorem szs_cons (t : Tm) (l : List Tm) : szs (t :: l) = t.sz + szs l := rfl
theorem szs_set : ∀ {ts : List Tm} {j : Nat} {t u : Tm}, ts[j]? = some t → szs (ts.set j u) + t.sz = szs ts + u.sz
  | [], j, t, u, h => by simp at h
  | x :: ts, 0, t, u, h => by
    cases h
    show szs (u :: ts) + _ = _
    rw [szs_cons, szs_cons]; omega
  | x :: ts, j + 1, t, u, h => by
    have ih := szs_set (ts := ts) (j := j) (t := t) (u := u) h
    show szs (x :: ts.set j u) + _ = _
    rw [szs_cons, szs_cons]; omega
theorem szs_one {ts : List Tm} {t : Tm} (l : ts.length = 1) (h : ts[0]? = some t) : szs ts = t.sz := by
  match ts, l with
  | [x], _ => cases h; rfl
theorem szs_head : ∀ {ts : List Tm} {t : Tm}, ts[0]? = some t → t.sz + (ts.length - 1) ≤ szs ts
  | x :: ts, t, h => by
    cases h
    rw [szs_cons]
    have : ∀ l : List Tm, l.length ≤ szs l := fun l => by
      induction l with
      | nil => exact Nat.le_refl _
      | cons y l ih =>
        have := y.sz_pos
        rw [szs_cons, List.length_cons]; omega
    have := this ts
    rw [List.length_cons]; omega
theorem split2 {ts : List Tm} {j : Nat} {t u : Tm} (h : ts[j]? = some t) (k : ts[j + 1]? = some u) : szs ts = szs (ts.take j) + t.sz + u.sz + szs (ts.drop (j + 2)) := by
  have e1 : ts.drop j = t :: ts.drop (j + 1) := (List.drop_eq_getElem_cons (List.getElem?_eq_some_iff.mp h).1).trans (by rw [(List.getElem?_eq_some_iff.mp h).2])
  have e2 : ts.drop (j + 1) = u :: ts.drop (j + 2) := (List.drop_eq_getElem_cons (List.getElem?_eq_some_iff.mp k).1).trans (by rw [(List.getElem?_eq_some_iff.mp k).2])
  have e : ts = ts.take j ++ (t :: u :: ts.drop (j + 2)) := by rw [← e2, ← e1, List.take_append_drop]
  have := congrArg szs e
  rw [szs_app, szs_cons, szs_cons] at this
  omega
theorem ok_set {ts : List Tm} {j : Nat} {u : Tm} (h : ∀ t ∈ ts, t.ok) (k : u.ok) : ∀ t ∈ ts.set j u, t.ok := fun t ht => by
  rcases List.mem_or_eq_of_mem_set ht with z | z
  · exact h t z
  · rw [z]; exact k
theorem cut_take (xs : List V) (n : Nat) : cutV xs none (some (n : Int)) = xs.take n := by
  unfold cutV
  rw [show HT.sIx xs.length xs.length (some (n : Int)) = min n xs.length from HT.sIx_nat xs.length xs.length n, HT.sIx_none, List.drop_zero, Nat.sub_zero]
  rw [List.take_eq_take_iff]
  omega
theorem cut_drop (xs : List V) (n : Nat) : cutV xs (some (n : Int)) none = xs.drop n := by
  unfold cutV
  rw [show HT.sIx xs.length 0 (some (n : Int)) = min n xs.length from HT.sIx_nat xs.length 0 n, HT.sIx_none]
  by_cases h : n ≤ xs.length
  · rw [Nat.min_eq_left h]
    exact List.take_of_length_le (by rw [List.length_drop]; omega)
  · rw [Nat.min_eq_right (by omega), List.drop_of_length_le (Nat.le_refl _), List.drop_of_length_le (by omega)]
    exact List.take_nil
theorem atN {α : Type} {l : List α} {j : Nat} {c : α} {z : Int} (e : z = (j : Int)) (h : l[j]? = some c) : atI l z = some c := by
  subst e
  have lt := (List.getElem?_eq_some_iff.mp h).1
  unfold atI ixN
  rw [if_pos (by omega), if_pos (by omega)]
  exact h
/-- items of a list and the data -/
def Its (C : Addr) (N : Addr → Prop) (H : Hp) (xs : List V) (ds : List Dat) : Prop := xs.length = ds.length ∧ ∀ (i : Nat) (x : V) (d : Dat), xs[i]? = some x → ds[i]? = some d → At C N H x d
section
variable {C : Addr} {M N : Addr → Prop} {H H0 H2 : Hp} {D : Addr}
theorem Its.nil : Its C N H [] [] := ⟨rfl, items0⟩
theorem Its.cons {x : V} {d : Dat} {xs : List V} {ds : List Dat} (h : At C N H x d) (t : Its C N H xs ds) : Its C N H (x :: xs) (d :: ds) := ⟨by rw [List.length_cons, List.length_cons, t.1], itemsC h t.2⟩
theorem Its.app {xs ys : List V} {ds es : List Dat} (a : Its C N H xs ds) (b : Its C N H ys es) : Its C N H (xs ++ ys) (ds ++ es) := by
  refine ⟨by rw [List.length_append, List.length_append, a.1, b.1], fun i x d hx hd => ?_⟩
  by_cases lt : i < xs.length
  · rw [List.getElem?_append_left lt] at hx
    rw [List.getElem?_append_left (by rw [← a.1]; exact lt)] at hd
    exact a.2 i x d hx hd
  · rw [List.getElem?_append_right (by omega)] at hx
    rw [List.getElem?_append_right (by rw [← a.1]; omega), ← a.1] at hd
    exact b.2 _ x d hx hd
theorem Its.take {xs : List V} {ds : List Dat} (a : Its C N H xs ds) (n : Nat) : Its C N H (xs.take n) (ds.take n) := by
  refine ⟨by rw [List.length_take, List.length_take, a.1], fun i x d hx hd => ?_⟩
  rw [List.getElem?_take] at hx hd
  by_cases lt : i < n
  · rw [if_pos lt] at hx hd
    exact a.2 i x d hx hd
  · rw [if_neg lt] at hx; cases hx
theorem Its.drop {xs : List V} {ds : List Dat} (a : Its C N H xs ds) (n : Nat) : Its C N H (xs.drop n) (ds.drop n) := by
  refine ⟨by rw [List.length_drop, List.length_drop, a.1], fun i x d hx hd => ?_⟩
  rw [List.getElem?_drop] at hx hd
  exact a.2 _ x d hx hd
theorem Its.rev {xs : List V} {ds : List Dat} (a : Its C N H xs ds) : Its C N H xs.reverse ds.reverse := by
  refine ⟨by rw [List.length_reverse, List.length_reverse, a.1], fun i x d hx hd => ?_⟩
  have lt : i < xs.length := by
    have := (List.getElem?_eq_some_iff.mp hx).1
    rw [List.length_reverse] at this
    exact this
  rw [List.getElem?_reverse lt] at hx
  rw [List.getElem?_reverse (by rw [← a.1]; exact lt), ← a.1] at hd
  exact a.2 _ x d hx hd
theorem Its.set {xs : List V} {ds : List Dat} (a : Its C N H xs ds) {x : V} {d : Dat} (j : Nat) (h : At C N H x d) : Its C N H (xs.set j x) (ds.set j d) := by
  refine ⟨by rw [List.length_set, List.length_set, a.1], fun i y e hy he => ?_⟩
  rw [List.getElem?_set] at hy he
  by_cases e1 : j = i
  · rw [if_pos e1] at hy he
    split at hy
    · split at he
      · cases hy; cases he; exact h
      · cases he
    · cases hy
  · rw [if_neg e1] at hy he
    exact a.2 i y e hy he
theorem Its.keep {H' : Hp} {xs : List V} {ds : List Dat} (a : Its C N H xs ds) (k : Keep N H H') : Its C N H' xs ds := ⟨a.1, fun i x d hx hd => (a.2 i x d hx hd).keep k⟩
theorem Its.less {xs : List V} {ds : List Dat} (a : Its C N H xs ds) (s : ∀ b, M b → N b) : Its C M H xs ds := ⟨a.1, fun i x d hx hd => (a.2 i x d hx hd).less s⟩
theorem Its.and {xs : List V} {ds : List Dat} (a : Its C N H xs ds) (f : H D = none) : Its C (And1 N D) H xs ds := ⟨a.1, fun i x d hx hd => (a.2 i x d hx hd).and f⟩
theorem Its.get {xs : List V} {f : Tm → Dat} {ts : List Tm} (a : Its C N H xs (ts.map f)) {i : Nat} {t : Tm} (h : ts[i]? = some t) : ∃ x, xs[i]? = some x ∧ At C N H x (f t) := by
  have lt := (List.getElem?_eq_some_iff.mp h).1
  have l := a.1
  rw [List.length_map] at l
  have hx : xs[i]? = some (xs[i]'(by omega)) := List.getElem?_eq_getElem _
  exact ⟨_, hx, a.2 i _ _ hx (by rw [List.getElem?_map, h]; rfl)⟩
theorem Bld.its {ds : List Dat} (B : Bld C M N H0 D ds H2) : ∃ xs, H2 D = some (.lst xs) ∧ Its C (And1 N D) H2 xs ds := let ⟨xs, h, l, e⟩ := B.xs; ⟨xs, h, l, e⟩
/-- the list is written anew -/
theorem Bld.put {ds ds' : List Dat} {xs : List V} (B : Bld C M N H0 D ds H2) (fr : H0 D = none) (h : Its C (And1 N D) H2 xs ds') : Bld C M N H0 D ds' (upd H2 D (.lst xs)) := by
  have ku : Keep (And1 N D) H2 (upd H2 D (.lst xs)) := Keep.upd (.inr rfl)
  refine ⟨⟨xs, upd_same, h.1, fun i x d hx hd => (h.2 i x d hx hd).keep ku⟩, ⟨fun b o hb n => ?_, fun b hb => ku.a b (B.k.a b hb)⟩⟩
  rw [upd_ne (ne_of_none hb fr)]
  exact B.k.k b o hb n
theorem Bld.keep {H3 : Hp} {ds : List Dat} (B : Bld C M N H0 D ds H2) (k : Keep M H2 H3) (s : ∀ b, M b → N b) (nD : ¬ M D) : Bld C M N H0 D ds H3 := by
  obtain ⟨xs, hD, l, e⟩ := B.xs
  exact ⟨⟨xs, k.k _ _ hD nD, l, fun i x d h1 h2 => (e i x d h1 h2).keep (k.more fun b z => .inl (s b z))⟩, B.k.trans k⟩
/-- a new list of what is there -/
theorem bld_new {xs : List V} {ds : List Dat} {r : Addr} (k : Keep M H0 H2) (nr : H2 r = none) (h : Its C N H2 xs ds) : Bld C M N H0 r ds (upd H2 r (.lst xs)) := by
  have h1 : Its C (And1 N r) H2 xs ds := h.and nr
  have ku : Keep (And1 N r) H2 (upd H2 r (.lst xs)) := Keep.new nr
  exact ⟨⟨xs, upd_same, h1.1, fun i x d hx hd => (h1.2 i x d hx hd).keep ku⟩, k.trans (Keep.new nr)⟩
end
section
variable {P : Program} {w : World} {K : PySem.W.Frag} {mg : Str → Option Value} {base : Heap}
theorem ok_ch {C f fD fL fJ : Addr} {fd dD dL dJ : FuncData} (F : Fun K "_law_chain" "_law_chain" sChain f fd) (T : TxtL mg) (cDr : CalN P w K mg base "_law_draw" 1 ["feed", "limit"] spDraw fD dD) (cLf : CalN P w K mg base "_law_leaf" 3 ["feed", "wide"] (spLf C) fL dL) (cJo : CalN P w K mg base "_law_joined" 2 ["feed", "one", "two"] (spJo C) fJ dJ) :
    FnOk P w K mg base CX0 4 f fd ["feed", "wide", "many"] (spCh C) := by
  refine F.ok scCh (fun vs H Q E h => ?_) (fun cdv A outer s H vs Q E hr h => ?_)
  · obtain ⟨N, a, cl, wd, m, rfl, _⟩ := h
    rfl
  · obtain ⟨N, a, cl, wd, m, rfl, hF, w0, w1, hm, al, na, kk⟩ := h
    have hr1 : Room 1 _ := hr.mono (by decide)
    have hr2 : Room 2 _ := hr.mono (by decide)
    have hr3 : Room 3 _ := hr
    refine ⟨_, pss_cons (ps_set (i := 3) scCh.nd rfl (.inl rfl) (pe_call cLf.G hr3 rfl cLf.m cLf.kp cLf.b .nil pass0 (pa_cons (pv 0) (pa_cons (pv 1) pa_nil))))
      (pss_cons (ps_for PassesOwn.never rfl (pi_range1 (by rfl) T.range (pa_cons (pv 2) pa_nil)) (pg_name (i := 4) scCh.nd rfl (.inl rfl))
        (pss_cons (ps_set (i := 5) scCh.nd rfl (.inl rfl) (pe_call cDr.G hr1 rfl cDr.m cDr.kp cDr.b .nil pass0 (pa_cons (pv 0) (pa_cons pe_int pa_nil))))
        (pss_one (ps_if (pt_cmpR op_eq (pv 5) pe_int (nomark _))
          (pss_one (ps_set (i := 3) scCh.nd rfl (.inl rfl) (pe_tup (pa_cons pe_str (pa_cons (pv 3) pa_nil)))))
          (pss_one (ps_if (pt_cmpR op_eq (pv 5) pe_int (nomark _))
            (pss_one (ps_set (i := 3) scCh.nd rfl (.inl rfl) (pe_call cJo.G hr2 rfl cJo.m cJo.kp cJo.b .nil pass0 (pa_cons (pv 0) (pa_cons (pv 3) (pa_cons (pe_call cLf.G hr3 rfl cLf.m cLf.kp cLf.b .nil pass0 (pa_cons (pv 0) (pa_cons (pv 1) pa_nil))) pa_nil))))))
            (pss_one (ps_set (i := 3) scCh.nd rfl (.inl rfl) (pe_call cJo.G hr2 rfl cJo.m cJo.kp cJo.b .nil pass0 (pa_cons (pv 0) (pa_cons (pe_call cLf.G hr3 rfl cLf.m cLf.kp cLf.b .nil pass0 (pa_cons (pv 0) (pa_cons (pv 1) pa_nil))) (pa_cons (pv 3) pa_nil))))))))))))
      (pss_one (ps_ret (pv 3)))), ?_⟩
    have alc : ∀ {G : Hp}, But a H G → FeedAt G a cl → Alc N G := fun b f => al.keep (Keep.but b na f.there)
    refine ⟨_, rfl, _, rfl, N, a, cl, wd, rfl, hF, w0, w1, al, na, fun p t H1 f1 b1 _ hp okt st => ?_⟩
    refine ⟨_, rfl, (m : Int), rfl, by omega, by omega, for_range (n := ((m : Int)).toNat) (fun i σ G => ∃ (p : Addr) (t : Tm) (o4 o5 : Option V), σ = [some (.ref a), some (.int wd), some (.int (m : Int)), some (.ref p), o4, o5] ∧ FeedAt G a cl ∧ But a H G ∧ At C N G (.ref p) t.own ∧ t.ok ∧ t.sz ≤ 1 + 2 * i)
      ⟨p, t, none, none, rfl, f1, b1, hp, okt, by omega⟩ ?_ ?_⟩
    · rintro i σ G hi ⟨p, t, o4, o5, rfl, f1, b1, hp, okt, st⟩
      refine ⟨_, rfl, a, cl, 3, rfl, f1, by decide, by decide, fun kd G2 _ _ f2 b2 => ?_⟩
      have b02 := b1.trans b2
      have hp2 := hp.keep (Keep.but b2 na f2.there)
      have al2 := alc b02 f2
      refine ⟨_, rfl, rfl, _, rfl, ite2 (fun _ => ?_) (fun _ => ?_)⟩
      · refine ⟨_, rfl, (by show 2 ≤ sizeLine; decide), fun r nr => ?_⟩
        exact ⟨r, .star t, _, _, rfl, f2.same (Same.upd nr), b02.trans (Same.but (Same.upd nr)), mk_one al2 nr hp2, okt, by show t.sz + 1 ≤ _; omega⟩
      refine ⟨_, rfl, rfl, _, rfl, ite2 (fun _ => ?_) (fun _ => ?_)⟩
      · refine ⟨_, rfl, _, rfl, _, rfl, _, rfl, N, a, cl, wd, rfl, f2, w0, w1, al2, na, fun q u G3 f3 b3 _ hq oku su => ?_⟩
        have b03 := b02.trans b3
        refine ⟨N, a, cl, p, q, t, u, rfl, f3, hp2.keep (Keep.but b3 na f3.there), hq, okt, oku, alc b03 f3, na, fun r x G4 f4 b4 _ hx okx sx => ?_⟩
        exact ⟨r, x, _, _, rfl, f4, b03.trans b4, hx, okx, by omega⟩
      · refine ⟨_, rfl, _, rfl, _, rfl, N, a, cl, wd, rfl, f2, w0, w1, al2, na, fun q u G3 f3 b3 _ hq oku su => ?_⟩
        have b03 := b02.trans b3
        refine ⟨_, rfl, N, a, cl, q, p, u, t, rfl, f3, hq, hp2.keep (Keep.but b3 na f3.there), oku, okt, alc b03 f3, na, fun r x G4 f4 b4 _ hx okx sx => ?_⟩
        exact ⟨r, x, _, _, rfl, f4, b03.trans b4, hx, okx, by omega⟩
    · rintro σ G ⟨p, t, o4, o5, rfl, f1, b1, hp, okt, st⟩
      exact ⟨_, rfl, kk p t G f1 b1 hp okt (by omega)⟩
theorem ok_bu {C f fD fL fJ : Addr} {fd dD dL dJ : FuncData} (F : Fun K "_law_bush" "_law_bush" sBush f fd) (T : TxtL mg) (cDr : CalN P w K mg base "_law_draw" 1 ["feed", "limit"] spDraw fD dD) (cLf : CalN P w K mg base "_law_leaf" 3 ["feed", "wide"] (spLf C) fL dL) (cJo : CalN P w K mg base "_law_joined" 2 ["feed", "one", "two"] (spJo C) fJ dJ) :
    FnOk P w K mg base CX0 4 f fd ["feed", "wide"] (spBu C) := by
  refine F.ok scBu (fun vs H Q E h => ?_) (fun cdv A outer s H vs Q E hr h => ?_)
  · obtain ⟨N, a, cl, wd, rfl, _⟩ := h
    rfl
  · obtain ⟨N, a, cl, wd, rfl, hF, w0, w1, al, na, kk⟩ := h
    have hr1 : Room 1 _ := hr.mono (by decide)
    have hr2 : Room 2 _ := hr.mono (by decide)
    have hr3 : Room 3 _ := hr
    refine ⟨_, pss_cons (ps_setLc (i := 2) (own := [("k", 5)]) (g := gName 5) (tt := tYes) rfl scBu.nd rfl rfl (sw_true rfl rfl rfl (by decide +kernel)) (pi_range1 (by rfl) T.range (pa_cons (pe_op op_add pe_int (pe_call cDr.G hr1 rfl cDr.m cDr.kp cDr.b .nil pass0 (pa_cons (pv 0) (pa_cons pe_int pa_nil)))) pa_nil)) (blkOk_by (N := ["feed", "wide", "items", "turn", "at", "k"]) (sc := (defScope sBush)) (by decide +kernel)) (fun _ _ _ _ _ => (pg_name (i := 5) scBu.nd rfl (.inl rfl))) (fun _ _ _ _ _ => pts_nil) (fun _ _ _ _ _ => (pe_call cLf.G hr3 rfl cLf.m cLf.kp cLf.b .nil pass0 (pa_cons (pv 0) (pa_cons (pv 1) pa_nil)))))
      (pss_cons (ps_for PassesOwn.never rfl (pi_range1 (by rfl) T.range (pa_cons pe_int pa_nil)) (pg_name (i := 3) scBu.nd rfl (.inl rfl))
        (C8.pss_cut (ps_if (pt_cmpR op_eq (pe_call cDr.G hr1 rfl cDr.m cDr.kp cDr.b .nil pass0 (pa_cons (pv 0) (pa_cons pe_int pa_nil))) pe_int (nomark _))
          (pss_cons (ps_set (i := 4) scBu.nd rfl (.inl rfl) (pe_call cDr.G hr1 rfl cDr.m cDr.kp cDr.b .nil pass0 (pa_cons (pv 0) (pa_cons (pe_callB call_len_seq (by rfl) T.len PySem.boot_len (pa_cons (pv 2) pa_nil)) pa_nil))))
          (pss_one (ps_asg (pe_tup (pa_cons pe_str (pa_cons (pe_ix ix_list (pv 2) (pv 4) (fun _ _ => rfl)) pa_nil))) (pg_sub (pv 2) (pv 4) set_list))))
          pss_nil)
        (pss_one (ps_if (pt_cmpR op_gt (pe_callB call_len_seq (by rfl) T.len PySem.boot_len (pa_cons (pv 2) pa_nil)) pe_int (nomark _))
          (pss_cons (ps_set (i := 4) scBu.nd rfl (.inl rfl) (pe_call cDr.G hr1 rfl cDr.m cDr.kp cDr.b .nil pass0 (pa_cons (pv 0) (pa_cons (pe_op op_sub (pe_callB call_len_seq (by rfl) T.len PySem.boot_len (pa_cons (pv 2) pa_nil)) pe_int) pa_nil))))
          (pss_one (ps_set (i := 2) scBu.nd rfl (.inl rfl) (pe_op op_cat (pe_op op_cat (pe_slice sl_list (pv 2) po_none (po_some (pv 4))) (pe_lst (pa_cons (pe_call cJo.G hr2 rfl cJo.m cJo.kp cJo.b .nil pass0 (pa_cons (pv 0) (pa_cons (pe_ix ix_list (pv 2) (pv 4) (fun _ _ => rfl)) (pa_cons (pe_ix ix_list (pv 2) (pe_op op_add (pv 4) pe_int) (fun _ _ => rfl)) pa_nil)))) pa_nil))) (pe_slice sl_list (pv 2) (po_some (pe_op op_add (pv 4) pe_int)) po_none)))))
          pss_nil))))
      (pss_one (ps_ret (pe_ix ix_list (pv 2) pe_int (fun _ _ => rfl))))), ?_⟩
    have sub : ∀ b, K1 a b → N b := fun b z => by rw [z]; exact na
    refine ⟨_, rfl, a, cl, 10, rfl, hF, by decide, by decide, fun d0 H1 d00 d01 f1 b1 => ⟨_, _, rfl, rfl, ?_⟩⟩
    obtain ⟨n, en, n1, n10⟩ : ∃ n : Nat, (1 : Int) + d0 = (n : Int) ∧ 1 ≤ n ∧ n ≤ 10 := ⟨(1 + d0).toNat, by omega, by omega, by omega⟩
    have al1 : Alc N H1 := al.keep (Keep.but b1 na f1.there)
    refine ⟨_, congrArg (fun z => [V.int z]) en, by omega, by omega, fun D nD => ?_⟩
    obtain ⟨Da, Dc⟩ := f1.ne_new nD
    refine lc_it (walk_range (lo := 0) (n := n)) (fun i G => ∃ ts : List Tm, Bld C (K1 a) N H1 D (ts.map Tm.own) G ∧ FeedAt G a cl ∧ ts.length = i ∧ szs ts = i ∧ ∀ t ∈ ts, t.ok) ⟨[], bld0 nD, f1.other Da Dc, rfl, rfl, fun t h => nomatch h⟩ (fun _ _ _ _ => trivial) ?_ ?_
    · rintro i x G1 G2 hi ⟨ts, bd, f2, l2, z2, o2⟩ ⟨rfl, rfl⟩
      refine ⟨rfl, _, rfl, _, rfl, And1 N D, a, cl, wd, rfl, f2, w0, w1, bd.alc al1, .inl na, fun r t G3 f3 b3 nr hat okt st => ?_⟩
      have k3 := keep_feed b3 f3
      obtain ⟨acc, h1, h2, h3⟩ := bd.step nD k3 sub Da hat
      refine ⟨acc, h1, by rw [h2, List.length_map]; exact small1000 (by omega), ts ++ [t], ?_, f3.other Da Dc, by rw [List.length_append, l2]; rfl, by rw [szs_app, z2]; show i + (t.sz + 0) = _; omega, fun u hu => ?_⟩
      · rw [List.map_append]; exact h3
      · rcases List.mem_append.mp hu with hu | hu
        · exact o2 u hu
        · simp only [List.mem_cons, List.not_mem_nil, or_false] at hu
          rw [hu]; exact okt
    · rintro G1 ⟨ts, bd, f2, l2, z2, o2⟩
      refine ⟨9, rfl, by decide, by decide, for_range (n := 9) (fun i σ G => ∃ (D : Addr) (ts : List Tm) (o3 o4 : Option V), σ = [some (.ref a), some (.int wd), some (.ref D), o3, o4, none] ∧ FeedAt G a cl ∧ Bld C (K1 a) N H1 D (ts.map Tm.own) G ∧ H1 D = none ∧ D ≠ a ∧ D ≠ cl ∧ szs ts + ts.length ≤ 2 * n + i ∧ 1 ≤ ts.length ∧ ∀ t ∈ ts, t.ok)
        ⟨D, ts, none, none, rfl, f2, bd, nD, Da, Dc, by omega, by omega, o2⟩ ?_ ?_⟩
      · rintro i σ G hi ⟨D, ts, o3, o4, rfl, f2, bd, nD, Da, Dc, sz, l1, oks⟩
        refine ⟨fun σ' G' => ∃ (ts : List Tm) (o3 o4 : Option V), σ' = [some (.ref a), some (.int wd), some (.ref D), o3, o4, none] ∧ FeedAt G' a cl ∧ Bld C (K1 a) N H1 D (ts.map Tm.own) G' ∧ szs ts + ts.length ≤ 2 * n + i + 1 ∧ 1 ≤ ts.length ∧ ∀ t ∈ ts, t.ok, ?_, ?_⟩
        · refine ⟨_, rfl, a, cl, 3, rfl, f2, by decide, by decide, fun kd G2 _ _ f3 b3 => ⟨rfl, _, rfl, ite2 (fun _ => ?_) (fun _ => ?_)⟩⟩
          · have bd2 := bd.keep (keep_feed b3 f3) sub Da
            obtain ⟨xs, hD, hI⟩ := bd2.its
            have lx : xs.length = ts.length := by rw [hI.1, List.length_map]
            refine ⟨_, rfl, _, rfl, D, xs, rfl, .inl (SqL.of hD), a, cl, _, rfl, f3, by omega, by omega, fun at' G3 at0 at1 f4 b4 => ?_⟩
            have bd3 := bd2.keep (keep_feed b4 f4) sub Da
            have hD3 := b4 _ _ hD Da
            have hI3 : Its C (And1 N D) G3 xs (ts.map Tm.own) := hI.keep (Keep.but b4 (.inl na) f4.there)
            have hj : at'.toNat < ts.length := by omega
            obtain ⟨x, hx, hX⟩ := hI3.get (List.getElem?_eq_getElem hj)
            refine ⟨_, rfl, _, rfl, D, _, _, _, rfl, rfl, SqL.of hD3, atN (by omega) hx, (by show 2 ≤ sizeLine; decide), fun r nr => ?_⟩
            have al3 : Alc (And1 N D) G3 := bd3.alc al1
            have bd4 := bd3.keep (Keep.new (o := .tup [.str "star", x]) nr) sub Da
            have hS := mk_one (k := "star") al3 nr hX
            have s4 : Same G3 (upd G3 r (.tup [.str "star", x])) := Same.upd nr
            have hI4 := hI3.keep (Same.keep s4)
            have hD4 := s4 _ _ hD3
            have f5 := f4.same s4
            generalize upd G3 r (.tup [.str "star", x]) = G4 at *
            refine ⟨_, rfl, _, rfl, D, xs, _, at'.toNat, rfl, rfl, hD4, ixN_at (by omega) (by omega), ?_⟩
            have e : (ts.map Tm.own).set at'.toNat (Tm.star (ts[at'.toNat]'hj)).own = (ts.set at'.toNat (Tm.star (ts[at'.toNat]'hj))).map Tm.own := by rw [List.map_set]
            have hz := szs_set (u := Tm.star (ts[at'.toNat]'hj)) (List.getElem?_eq_getElem hj)
            have hz2 : (Tm.star (ts[at'.toNat]'hj)).sz = (ts[at'.toNat]'hj).sz + 1 := rfl
            refine ⟨ts.set at'.toNat (Tm.star (ts[at'.toNat]'hj)), _, _, rfl, f5.other Da Dc, ?_, by rw [List.length_set]; omega, by rw [List.length_set]; exact l1, ok_set oks (show Tm.ok (ts[at'.toNat]'hj) from oks _ (List.getElem_mem hj))⟩
            rw [← e]
            exact bd4.put nD (hI4.set _ hS)
          · exact ⟨ts, _, _, rfl, f3, bd.keep (keep_feed b3 f3) sub Da, by omega, l1, oks⟩
        rintro σ' G2 ⟨ts, o3, o4, rfl, f3, bd2, sz, l1, oks⟩
        obtain ⟨xs, hD, hI⟩ := bd2.its
        have lx : xs.length = ts.length := by rw [hI.1, List.length_map]
        refine ⟨_, rfl, D, xs, rfl, .inl (SqL.of hD), _, _, rfl, rfl, _, rfl, ite2 (fun z => ?_) (fun _ => ?_)⟩
        · have z : (1 : Int) < (xs.length : Int) := of_decide_eq_true z
          refine ⟨_, rfl, _, rfl, D, xs, rfl, .inl (SqL.of hD), _, _, rfl, rfl, a, cl, _, rfl, f3, by omega, by omega, fun at' G3 at0 at1 f4 b4 => ?_⟩
          have bd3 := bd2.keep (keep_feed b4 f4) sub Da
          have hD3 := b4 _ _ hD Da
          have hI3 : Its C (And1 N D) G3 xs (ts.map Tm.own) := hI.keep (Keep.but b4 (.inl na) f4.there)
          obtain ⟨j, rfl⟩ : ∃ j : Nat, at' = (j : Int) := ⟨at'.toNat, by omega⟩
          have hj : j < ts.length := by omega
          have hj1 : j + 1 < ts.length := by omega
          refine ⟨_, rfl, _, rfl, _, rfl, D, _, rfl, SqL.of hD3, fun p1 np1 => ?_⟩
          rw [cut_take]
          have s4 : Same G3 (upd G3 p1 (.lst (xs.take j))) := Same.upd np1
          have hp1 : (upd G3 p1 (.lst (xs.take j))) p1 = some (.lst (xs.take j)) := upd_same
          have pa := (f4.ne_new np1).1
          have bd4 := bd3.keep (Keep.new (o := .lst (xs.take j)) np1) sub Da
          have hI4 := hI3.keep (Same.keep s4)
          have hD4 := s4 _ _ hD3
          have f5 := f4.same s4
          generalize upd G3 p1 (.lst (xs.take j)) = G4 at *
          obtain ⟨x, hx, hX⟩ := hI4.get (List.getElem?_eq_getElem hj)
          obtain ⟨y, hy, hY⟩ := hI4.get (List.getElem?_eq_getElem hj1)
          obtain ⟨px, rfl⟩ := own_ref hX
          obtain ⟨py, rfl⟩ := own_ref hY
          refine ⟨_, rfl, _, rfl, _, rfl, D, _, _, _, rfl, rfl, SqL.of hD4, atN rfl hx, _, rfl, _, rfl, _, _, rfl, rfl, D, _, _, _, rfl, rfl, SqL.of hD4, atN rfl hy, And1 N D, a, cl, px, py, _, _, rfl, f5, hX, hY, oks _ (List.getElem_mem hj), oks _ (List.getElem_mem hj1), bd4.alc al1, .inl na, fun r u G5 f6 b6 _ hr oku su => ?_⟩
          have bd5 := bd4.keep (keep_feed b6 f6) sub Da
          have hD5 := b6 _ _ hD4 Da
          have hp15 := b6 _ _ hp1 pa
          have hI5 : Its C (And1 N D) G5 xs (ts.map Tm.own) := hI4.keep (Keep.but b6 (.inl na) f6.there)
          refine ⟨(by show 1 ≤ sizeLine; decide), fun q nq => ?_⟩
          have s6 : Same G5 (upd G5 q (.lst [.ref r])) := Same.upd nq
          have hq6 : (upd G5 q (.lst [.ref r])) q = some (.lst [.ref r]) := upd_same
          have bd6 := bd5.keep (Keep.new (o := .lst [.ref r]) nq) sub Da
          have hI6 := hI5.keep (Same.keep s6)
          have hr6 := hr.same s6
          have hD6 := s6 _ _ hD5
          have hp16 := s6 _ _ hp15
          have f7 := f6.same s6
          generalize upd G5 q (.lst [.ref r]) = G6 at *
          have small : ∀ k : Nat, k ≤ 100 → k ≤ sizeLine := fun k hk => Nat.le_of_lt (small1000 (by omega))
          have lt1 : (xs.take j).length ≤ 50 := by rw [List.length_take]; omega
          refine ⟨p1, q, _, _, rfl, rfl, hp16, hq6, small _ (by rw [List.length_singleton]; omega), fun r1 nr1 => ?_⟩
          have s7 : Same G6 (upd G6 r1 (.lst (xs.take j ++ [.ref r]))) := Same.upd nr1
          have hr7 : (upd G6 r1 (.lst (xs.take j ++ [.ref r]))) r1 = some (.lst (xs.take j ++ [.ref r])) := upd_same
          have bd7 := bd6.keep (Keep.new (o := .lst (xs.take j ++ [.ref r])) nr1) sub Da
          have hI7 := hI6.keep (Same.keep s7)
          have hR7 := hr6.same s7
          have hD7 := s7 _ _ hD6
          have f8 := f7.same s7
          generalize upd G6 r1 (.lst (xs.take j ++ [.ref r])) = G7 at *
          refine ⟨_, rfl, _, rfl, _, _, rfl, rfl, _, rfl, D, _, rfl, SqL.of hD7, fun p2 np2 => ?_⟩
          rw [show ((j : Int) + 2) = ((j + 2 : Nat) : Int) by omega, cut_drop]
          have s8 : Same G7 (upd G7 p2 (.lst (xs.drop (j + 2)))) := Same.upd np2
          have hp28 : (upd G7 p2 (.lst (xs.drop (j + 2)))) p2 = some (.lst (xs.drop (j + 2))) := upd_same
          have bd8 := bd7.keep (Keep.new (o := .lst (xs.drop (j + 2))) np2) sub Da
          have hI8 := hI7.keep (Same.keep s8)
          have hR8 := hR7.same s8
          have hr8 := s8 _ _ hr7
          have f9 := f8.same s8
          generalize upd G7 p2 (.lst (xs.drop (j + 2))) = G8 at *
          refine ⟨r1, p2, _, _, rfl, rfl, hr8, hp28, small _ (by rw [List.length_append, List.length_drop, List.length_singleton]; omega), fun r2 nr2 => ?_⟩
          obtain ⟨ra, rc⟩ := f9.ne_new nr2
          have hz := split2 (List.getElem?_eq_getElem hj) (List.getElem?_eq_getElem hj1)
          have hzs : szs (ts.take j ++ [u] ++ ts.drop (j + 2)) = szs ts + 1 := by
            rw [szs_app, szs_app]
            show _ + (u.sz + 0) + _ = _
            omega
          have hl : (ts.take j ++ [u] ++ ts.drop (j + 2)).length + 1 = ts.length := by
            rw [List.length_append, List.length_append, List.length_take, List.length_drop, List.length_singleton]
            omega
          refine ⟨r2, ts.take j ++ [u] ++ ts.drop (j + 2), _, _, rfl, f9.same (Same.upd nr2), ?_, bd8.k.free nr2, ra, rc, by omega, by omega, fun t ht => ?_⟩
          · have hI9 : Its C N G8 (xs.take j ++ [.ref r] ++ xs.drop (j + 2)) ((ts.take j ++ [u] ++ ts.drop (j + 2)).map Tm.own) := by
              rw [List.map_append, List.map_append, List.map_take, List.map_drop]
              exact (((hI8.take j).app (Its.cons hR8 Its.nil)).app (hI8.drop (j + 2))).less fun b z => .inl z
            exact bld_new bd8.k nr2 hI9
          · rcases List.mem_append.mp ht with ht | ht
            · rcases List.mem_append.mp ht with ht | ht
              · exact oks t (List.mem_of_mem_take ht)
              · simp only [List.mem_cons, List.not_mem_nil, or_false] at ht
                rw [ht]; exact oku
            · exact oks t (List.mem_of_mem_drop ht)
        · exact ⟨D, ts, _, _, rfl, f3, bd2, nD, Da, Dc, by omega, l1, oks⟩
      · rintro σ G ⟨D, ts, o3, o4, rfl, f2, bd, nD, Da, Dc, sz, l1, oks⟩
        obtain ⟨xs, hD, hI⟩ := bd.its
        have h0 : ts[0]? = some (ts[0]'(by omega)) := List.getElem?_eq_getElem _
        obtain ⟨x, hx, hX⟩ := hI.get h0
        obtain ⟨px, rfl⟩ := own_ref hX
        have := szs_head h0
        exact ⟨_, rfl, D, _, 0, _, rfl, rfl, SqL.of hD, atN rfl hx, kk px _ G f2 (b1.trans bd.k.to) (hX.less fun b z => .inl z) (oks _ (List.getElem_mem _)) (by omega)⟩
end
end RX

set_option Elab.async false
set_option maxRecDepth 100000
namespace RX
open PySem L2
open RQ (Bt)
abbrev sWide : Stmt := topS 22
theorem scWi : FnScope ["feed", "wide", "items", "turn", "pairs", "k", "pair"] ["feed", "wide"] (defScope sWide) := ⟨rfl, rfl, rfl, by decide +kernel, rfl, by decide +kernel, by decide +kernel⟩
abbrev sTerm : Stmt := topS 23
theorem scTe : FnScope ["feed", "wide", "kind"] ["feed"] (defScope sTerm) := ⟨rfl, rfl, rfl, by decide +kernel, rfl, by decide +kernel, by decide +kernel⟩
def rLenS (K : PySem.W.Frag) : List V → Hp → VK → Prop := fun xs H Q => ∃ p ys, xs = [.ref p] ∧ (SqL K H p ys ∨ SqT K H p ys) ∧ Q (.int ys.length) H
theorem call_len_seqK {X : Cx} : CallR X (.builtin "len") (rLenS X.K) := call_len_seq
theorem rg2 : ∀ n : Nat, n ≤ 30 → RgC 0 (n : Int) 2 ((n + 1) / 2) := by
  intro n hn
  refine ⟨by decide, by decide, ?_, ?_⟩
  · revert n; decide +kernel
  · revert n; decide +kernel
theorem cut_two {xs : List V} {k : Nat} (h : k < xs.length) : cutV xs (some (k : Int)) (some ((k + 2 : Nat) : Int)) = (xs.drop k).take 2 := by
  unfold cutV
  rw [show HT.sIx xs.length 0 (some (k : Int)) = min k xs.length from HT.sIx_nat xs.length 0 k, show HT.sIx xs.length xs.length (some ((k + 2 : Nat) : Int)) = min (k + 2) xs.length from HT.sIx_nat xs.length xs.length (k + 2)]
  rw [Nat.min_eq_left (Nat.le_of_lt h), List.take_eq_take_iff, List.length_drop]
  omega
def chunk (ts : List Tm) (i : Nat) : List Tm := (ts.drop (2 * i)).take 2
theorem chunk_two {ts : List Tm} {i : Nat} {t u : Tm} (h : ts[2 * i]? = some t) (k : ts[2 * i + 1]? = some u) : chunk ts i = [t, u] := by
  have e1 : ts.drop (2 * i) = t :: ts.drop (2 * i + 1) := (List.drop_eq_getElem_cons (List.getElem?_eq_some_iff.mp h).1).trans (by rw [(List.getElem?_eq_some_iff.mp h).2])
  have e2 : ts.drop (2 * i + 1) = u :: ts.drop (2 * i + 1 + 1) := (List.drop_eq_getElem_cons (List.getElem?_eq_some_iff.mp k).1).trans (by rw [(List.getElem?_eq_some_iff.mp k).2])
  unfold chunk
  rw [e1, e2]
  rfl
theorem chunk_len {ts : List Tm} {i : Nat} : (chunk ts i).length = min 2 (ts.length - 2 * i) := by
  unfold chunk
  rw [List.length_take, List.length_drop]
theorem iteT' {b : Bool} {p q : Prop} (h : b = true) (k : p) : if b = true then p else q := by rw [if_pos h]; exact k
theorem iteF' {b : Bool} {p q : Prop} (h : b = false) (k : q) : if b = true then p else q := by rw [if_neg (by rw [h]; exact Bool.false_ne_true)]; exact k
def halves : Nat → Nat
  | 0 => 30
  | i + 1 => (halves i + 1) / 2
theorem halves_le : ∀ i, i ≤ 5 → halves i ≤ 30 ∧ 1 ≤ halves i := by decide
def spTe (C : Addr) : Sp := fun vs H Q _ => ∃ (N : Addr → Prop) (a cl : Addr), vs = [.ref a] ∧ FeedAt H a cl ∧ Alc N H ∧ N a ∧
  ∀ (r : Addr) (t : Tm) (H' : Hp), FeedAt H' a cl → But a H H' → At C N H' (.ref r) t.own → t.ok → t.sz ≤ 59 → Q (.ref r) H'
section
variable {P : Program} {w : World} {K : PySem.W.Frag} {mg : Str → Option Value} {base : Heap}
theorem ok_wi {C f fL fJ : Addr} {fd dL dJ : FuncData} (F : Fun K "_law_wide_term" "_law_wide_term" sWide f fd) (T : TxtL mg) (cLf : CalN P w K mg base "_law_leaf" 3 ["feed", "wide"] (spLf C) fL dL) (cJo : CalN P w K mg base "_law_joined" 2 ["feed", "one", "two"] (spJo C) fJ dJ) :
    FnOk P w K mg base CX0 4 f fd ["feed", "wide"] (spBu C) := by
  refine F.ok scWi (fun vs H Q E h => ?_) (fun cdv A outer s H vs Q E hr h => ?_)
  · obtain ⟨N, a, cl, wd, rfl, _⟩ := h
    rfl
  · obtain ⟨N, a, cl, wd, rfl, hF, w0, w1, al, na, kk⟩ := h
    have hr2 : Room 2 _ := hr.mono (by decide)
    have hr3 : Room 3 _ := hr
    refine ⟨_, pss_cons (ps_set (i := 2) scWi.nd rfl (.inr rfl) (pe_lc (own := [("k", 5)]) (g := gName 5) (tt := tYes) rfl scWi.nd (pi_range1 (by rfl) T.range (pa_cons pe_int pa_nil)) (blkOk_by (N := ["feed", "wide", "items", "turn", "pairs", "k", "pair"]) (sc := (defScope sWide)) (by decide +kernel)) (fun _ _ _ _ _ => (pg_name (i := 5) scWi.nd rfl (.inl rfl))) (fun _ _ _ _ _ => pts_nil) (fun _ _ _ _ _ => (pe_call cLf.G hr3 rfl cLf.m cLf.kp cLf.b .nil pass0 (pa_cons (pv 0) (pa_cons (pv 1) pa_nil))))))
      (pss_cons (ps_for PassesOwn.never rfl (pi_range1 (by rfl) T.range (pa_cons pe_int pa_nil)) (pg_name (i := 3) scWi.nd rfl (.inl rfl))
        (pss_cons (ps_setLc (i := 4) (own := [("k", 5)]) (g := gName 5) (tt := tYes) rfl scWi.nd rfl rfl (sw_true rfl rfl rfl (by decide +kernel)) (pi_range3 (by rfl) T.range (pa_cons pe_int (pa_cons (pe_callB call_len_seq (by rfl) T.len PySem.boot_len (pa_cons (pv 2) pa_nil)) (pa_cons pe_int pa_nil)))) (blkOk_by (N := ["feed", "wide", "items", "turn", "pairs", "k", "pair"]) (sc := (defScope sWide)) (by decide +kernel)) (fun _ _ _ _ _ => (pg_name (i := 5) scWi.nd rfl (.inl rfl))) (fun _ _ _ _ _ => pts_nil) (fun _ _ _ _ _ => (pe_slice (show SlR _ (rSlL K) from sl_list) (pv 2) (po_some (pv 5)) (po_some (pe_op op_add (pv 5) pe_int)))))
        (pss_one (ps_set (i := 2) scWi.nd rfl (.inr rfl) (pe_op op_cat (pe_lc (own := [("pair", 6)]) (g := gName 6) rfl scWi.nd (pi_list (pv 4)) (blkOk_by (N := ["feed", "wide", "items", "turn", "pairs", "k", "pair"]) (sc := (defScope sWide)) (by decide +kernel)) (fun _ _ _ _ _ => (pg_name (i := 6) scWi.nd rfl (.inl rfl))) (fun _ _ _ _ _ => pts_one (pt_cmpR op_eq (pe_callB (show CallR _ (.builtin "len") (rLenS K) from call_len_seqK) (by rfl) T.len PySem.boot_len (pa_cons (pv 6) pa_nil)) pe_int (nomark _))) (fun _ _ _ _ _ => (pe_call cJo.G hr2 rfl cJo.m cJo.kp cJo.b .nil pass0 (pa_cons (pv 0) (pa_cons (pe_ix (show IxR _ (rIxL K) from ix_list) (pv 6) pe_int (fun _ _ => rfl)) (pa_cons (pe_ix (show IxR _ (rIxL K) from ix_list) (pv 6) (pe_un un_neg pe_int) (fun _ _ => rfl)) pa_nil)))))) (pe_slice sl_list (pv 2) (po_some (pe_op RQ.op_mulH (pe_op op_fdiv (pe_callB call_len_seq (by rfl) T.len PySem.boot_len (pa_cons (pv 2) pa_nil)) pe_int) pe_int)) po_none))))))
      (pss_one (ps_ret (pe_ix ix_list (pv 2) pe_int (fun _ _ => rfl))))), ?_⟩
    have sub : ∀ b, K1 a b → N b := fun b z => by rw [z]; exact na
    refine ⟨30, rfl, by decide, by decide, fun D nD => ?_⟩
    obtain ⟨Da, Dc⟩ := hF.ne_new nD
    refine lc_it (walk_range (lo := 0) (n := 30)) (fun i G => ∃ ts : List Tm, Bld C (K1 a) N H D (ts.map Tm.own) G ∧ FeedAt G a cl ∧ ts.length = i ∧ szs ts = i ∧ ∀ t ∈ ts, t.ok) ⟨[], bld0 nD, hF.other Da Dc, rfl, rfl, fun t h => nomatch h⟩ (fun _ _ _ _ => trivial) ?_ ?_
    · rintro i x G1 G2 hi ⟨ts, bd, f2, l2, z2, o2⟩ ⟨rfl, rfl⟩
      refine ⟨rfl, _, rfl, _, rfl, And1 N D, a, cl, wd, rfl, f2, w0, w1, bd.alc al, .inl na, fun r t G3 f3 b3 nr hat okt st => ?_⟩
      have k3 := keep_feed b3 f3
      obtain ⟨acc, h1, h2, h3⟩ := bd.step nD k3 sub Da hat
      refine ⟨acc, h1, by rw [h2, List.length_map]; exact small1000 (by omega), ts ++ [t], ?_, f3.other Da Dc, by rw [List.length_append, l2]; rfl, by rw [szs_app, z2]; show i + (t.sz + 0) = _; omega, fun u hu => ?_⟩
      · rw [List.map_append]; exact h3
      · rcases List.mem_append.mp hu with hu | hu
        · exact o2 u hu
        · simp only [List.mem_cons, List.not_mem_nil, or_false] at hu
          rw [hu]; exact okt
    · rintro G1 ⟨ts, bd, f2, l2, z2, o2⟩
      refine ⟨5, rfl, by decide, by decide, for_range (n := 5) (fun i σ G => ∃ (D : Addr) (ts : List Tm) (o3 o4 : Option V), σ = [some (.ref a), some (.int wd), some (.ref D), o3, o4, none, none] ∧ FeedAt G a cl ∧ Bld C (K1 a) N H D (ts.map Tm.own) G ∧ H D = none ∧ D ≠ a ∧ D ≠ cl ∧ szs ts + ts.length = 60 ∧ ts.length = halves i ∧ ∀ t ∈ ts, t.ok)
        ⟨D, ts, none, none, rfl, f2, bd, nD, Da, Dc, by omega, l2, o2⟩ ?_ ?_⟩
      · rintro i σ G hi ⟨D, ts, o3, o4, rfl, f2, bd, nD, Da, Dc, sz, lh, oks⟩
        obtain ⟨h30, h1⟩ := halves_le i (by omega)
        rw [← lh] at h30 h1
        obtain ⟨xs, hD, hI⟩ := bd.its
        have lx : xs.length = ts.length := by rw [hI.1, List.length_map]
        have alG : Alc (And1 N D) G := bd.alc al
        refine ⟨_, rfl, D, xs, rfl, .inl (SqL.of hD), 0, (xs.length : Int), 2, (xs.length + 1) / 2, rfl, rg2 _ (by omega), fun E nE => ?_⟩
        refine lc_it (walk_rangeC (lo := 0) (c := 2) (n := (xs.length + 1) / 2)) (fun j G' => Bld C Emp (And1 N D) G E ((List.range j).map fun i => .lst ((chunk ts i).map Tm.own)) G') (bld0 nE) (fun _ _ _ _ => trivial) ?_ ?_
        · rintro j x G0 G1 hj be ⟨rfl, rfl⟩
          have hD1 := be.k.same _ _ hD
          have hI1 := hI.keep (Same.keep (N := And1 N D) be.k.same)
          refine ⟨rfl, _, rfl, _, rfl, _, rfl, _, rfl, _, _, rfl, rfl, _, rfl, D, xs, rfl, SqL.of hD1, fun p np => ?_⟩
          have e2 : (0 : Int) + (j : Nat) * 2 = ((2 * j : Nat) : Int) := by omega
          rw [e2, show (((2 * j : Nat) : Int) + 2) = ((2 * j + 2 : Nat) : Int) by omega, cut_two (by omega)]
          have hc : Its C (And1 N D) G1 ((xs.drop (2 * j)).take 2) ((chunk ts j).map Tm.own) := by
            unfold chunk
            rw [List.map_take, List.map_drop]
            exact (hI1.drop _).take _
          have hp : At C (And1 N D) (upd G1 p (.lst ((xs.drop (2 * j)).take 2))) (.ref p) (.lst ((chunk ts j).map Tm.own)) := At.newL (alG.keep be.k) np hc.1 hc.2
          have pE : p ≠ E := fun e => by obtain ⟨_, hE, _⟩ := be.its; rw [e, hE] at np; cases np
          have hp' : At C (And1 (And1 N D) E) (upd G1 p (.lst ((xs.drop (2 * j)).take 2))) (.ref p) (.lst ((chunk ts j).map Tm.own)) := by
            refine At.newL (be.alc alG) np hc.1 fun i x d hx hd => ?_
            have := hI.and (D := E) nE
            have h2 := (this.keep (be.k.more (M := And1 (And1 N D) E) fun b z => z.elim))
            have hc2 : Its C (And1 (And1 N D) E) G1 ((xs.drop (2 * j)).take 2) ((chunk ts j).map Tm.own) := by
              unfold chunk
              rw [List.map_take, List.map_drop]
              exact (h2.drop _).take _
            exact hc2.2 i x d hx hd
          obtain ⟨acc, h1, h2, h3⟩ := be.step nE (Keep.new np) (fun _ z => z.elim) id hp'
          refine ⟨acc, h1, by rw [h2, List.length_map, List.length_range]; exact small1000 (by omega), ?_⟩
          rw [List.range_succ, List.map_append]
          exact h3
        · rintro G1 be
          have s1 := be.k.same
          have bd1 := bd.keep (Same.keep s1) sub Da
          have hD1 := s1 _ _ hD
          have hI1 := hI.keep (Same.keep (N := And1 N D) s1)
          have f3 := f2.same s1
          obtain ⟨es, hE, hIE⟩ := be.its
          obtain ⟨Ea, Ec⟩ := f2.ne_new nE
          have al1 : Alc (And1 (And1 N D) E) G1 := be.alc alG
          have le : es.length = (ts.length + 1) / 2 := by rw [hIE.1, List.length_map, List.length_range, lx]
          refine ⟨_, rfl, E, rfl, ⟨_, SqL.of hE⟩, fun J nJ => ?_⟩
          obtain ⟨Ja, Jc⟩ := f3.ne_new nJ
          have subE : ∀ b, K1 a b → And1 (And1 N D) E b := fun b z => .inl (.inl (sub b z))
          refine lc_it (walk_list (K := K) (a := E) (xs := es)) (fun j G' => ∃ us : List Tm, Bld C (K1 a) (And1 (And1 N D) E) G1 J (us.map Tm.own) G' ∧ FeedAt G' a cl ∧ us.length = min j (ts.length / 2) ∧ szs us + szs (ts.drop (2 * us.length)) = szs ts + us.length ∧ ∀ t ∈ us, t.ok)
            ⟨[], bld0 nJ, f3.other Ja Jc, by simp, by show 0 + szs ts = _; simp, fun t h => nomatch h⟩ (fun j G' _ h => by obtain ⟨us, bj, _⟩ := h; exact SqL.of (bj.k.k _ _ hE Ea)) ?_ ?_
          · rintro j x G2 G3 hj ⟨us, bj, f4, lu, zu, ou⟩ ⟨rfl, hx⟩
            have hx1 := hIE.2 j x (.lst ((chunk ts j).map Tm.own)) hx (by rw [List.getElem?_map, List.getElem?_range (by omega)]; rfl)
            have hx2 : At C (And1 (And1 (And1 N D) E) J) G3 x _ := bj.old nJ subE hx1
            obtain ⟨p, rfl⟩ := hx2.lstV
            obtain ⟨ps, hp, lp, ep⟩ := hx2.lstE
            rw [List.length_map, chunk_len] at lp
            refine ⟨rfl, _, rfl, p, ps, rfl, .inl (SqL.of hp), rfl, _, rfl, ?_⟩
            by_cases h2 : 2 * j + 1 < ts.length
            · have hl2 : ps.length = 2 := by omega
              refine iteT' (decide_eq_true (by rw [hl2]; rfl)) ?_
              have ht : ts[2 * j]? = some (ts[2 * j]'(by omega)) := List.getElem?_eq_getElem _
              have hu : ts[2 * j + 1]? = some (ts[2 * j + 1]'h2) := List.getElem?_eq_getElem _
              have ce := chunk_two ht hu
              obtain ⟨v0, v1, rfl⟩ : ∃ v0 v1, ps = [v0, v1] := match ps, hl2 with
                | [a, b], _ => ⟨a, b, rfl⟩
              have hv0 := ep 0 v0 (ts[2 * j]'(by omega)).own rfl (by rw [ce]; rfl)
              have hv1 := ep 1 v1 (ts[2 * j + 1]'h2).own rfl (by rw [ce]; rfl)
              obtain ⟨q0, rfl⟩ := own_ref hv0
              obtain ⟨q1, rfl⟩ := own_ref hv1
              have okt := oks _ (List.getElem_mem (show 2 * j < ts.length by omega))
              have oku := oks _ (List.getElem_mem h2)
              refine ⟨_, rfl, _, rfl, p, _, 0, _, rfl, rfl, SqL.of hp, rfl, _, rfl, _, rfl, p, _, -1, _, rfl, rfl, SqL.of hp, rfl, And1 (And1 (And1 N D) E) J, a, cl, q0, q1, _, _, rfl, f4, hv0, hv1, okt, oku, bj.alc al1, .inl (.inl (.inl na)), fun r y G4 f5 b5 _ hy oky sy => ?_⟩
              obtain ⟨acc, h1', h2', h3'⟩ := bj.step nJ (keep_feed b5 f5) subE Ja hy
              have lj : us.length = j := by rw [lu]; omega
              have hz := split2 ht hu
              have hz2 : szs ts = szs (ts.take (2 * j)) + szs (ts.drop (2 * j)) := by rw [← szs_app, List.take_append_drop]
              refine ⟨acc, h1', by rw [h2', List.length_map]; exact small1000 (by omega), us ++ [y], ?_, f5.other Ja Jc, by rw [List.length_append, List.length_singleton]; omega, ?_, fun z hz => ?_⟩
              · rw [List.map_append]; exact h3'
              · rw [szs_app, List.length_append, List.length_singleton, lj, show 2 * (j + 1) = 2 * j + 2 by omega]
                rw [lj] at zu
                show szs us + (y.sz + 0) + _ = _
                omega
              · rcases List.mem_append.mp hz with hz | hz
                · exact ou z hz
                · simp only [List.mem_cons, List.not_mem_nil, or_false] at hz
                  rw [hz]; exact oky
            · refine iteF' (decide_eq_false fun z => ?_) ⟨us, bj, f4, by omega, zu, ou⟩
              have z := V.int.inj z
              omega
          · rintro G2 ⟨us, bj, f4, lu, zu, ou⟩
            have lu2 : us.length = ts.length / 2 := by omega
            have k2 := bj.k
            have hD2 := k2.k _ _ hD1 Da
            have hI2 : Its C (And1 N D) G2 xs (ts.map Tm.own) := hI1.keep (k2.more fun b z => .inl (sub b z))
            have bd2 := bd1.keep k2 sub Da
            obtain ⟨ys, hJ, hIJ⟩ := bj.its
            have e3 : ((xs.length : Int)) / 2 * 2 = ((2 * us.length : Nat) : Int) := by omega
            have hb : RQ.CMulH ((xs.length : Int) / 2) 2 := ⟨⟨10, by decide, by
              show ((xs.length : Int) / 2).natAbs < 2 ^ 10
              omega⟩, ⟨2, by decide, show (2 : Int).natAbs < 2 ^ 2 by decide⟩⟩
            refine ⟨_, rfl, _, rfl, D, xs, rfl, .inl (SqL.of hD2), _, _, rfl, rfl, ⟨by decide, by decide⟩, _, _, rfl, rfl, hb, _, congrArg V.int e3, D, xs, rfl, SqL.of hD2, fun p2 np2 => ?_⟩
            rw [cut_drop]
            have s8 : Same G2 (upd G2 p2 (.lst (xs.drop (2 * us.length)))) := Same.upd np2
            have hp28 : (upd G2 p2 (.lst (xs.drop (2 * us.length)))) p2 = some (.lst (xs.drop (2 * us.length))) := upd_same
            have bd8 := bd2.keep (Keep.new (o := .lst (xs.drop (2 * us.length))) np2) sub Da
            have hI8 := hI2.keep (Same.keep s8)
            have hIJ8 := hIJ.keep (Same.keep s8)
            have hJ8 := s8 _ _ hJ
            have f9 := f4.same s8
            generalize upd G2 p2 (.lst (xs.drop (2 * us.length))) = G8 at *
            have ly : ys.length = us.length := by rw [hIJ.1, List.length_map]
            refine ⟨J, p2, _, _, rfl, rfl, hJ8, hp28, Nat.le_of_lt (small1000 (by rw [List.length_drop]; omega)), fun r2 nr2 => ?_⟩
            obtain ⟨ra, rc⟩ := f9.ne_new nr2
            have hl : (us ++ ts.drop (2 * us.length)).length = (ts.length + 1) / 2 := by
              rw [List.length_append, List.length_drop]
              omega
            refine ⟨r2, us ++ ts.drop (2 * us.length), _, _, rfl, f9.same (Same.upd nr2), ?_, bd8.k.free nr2, ra, rc, ?_, ?_, fun t ht => ?_⟩
            · have hI9 : Its C N G8 (ys ++ xs.drop (2 * us.length)) ((us ++ ts.drop (2 * us.length)).map Tm.own) := by
                rw [List.map_append, List.map_drop]
                exact (hIJ8.less fun b z => .inl (.inl (.inl z))).app ((hI8.drop _).less fun b z => .inl z)
              exact bld_new bd8.k nr2 hI9
            · rw [hl, szs_app]; omega
            · rw [hl, lh]; rfl
            · rcases List.mem_append.mp ht with ht | ht
              · exact ou t ht
              · exact oks t (List.mem_of_mem_drop ht)
      · rintro σ G ⟨D, ts, o3, o4, rfl, f2, bd, nD, Da, Dc, sz, lh, oks⟩
        have l1 : ts.length = 1 := lh
        obtain ⟨xs, hD, hI⟩ := bd.its
        have h0 : ts[0]? = some (ts[0]'(by omega)) := List.getElem?_eq_getElem _
        obtain ⟨x, hx, hX⟩ := hI.get h0
        obtain ⟨px, rfl⟩ := own_ref hX
        have := szs_one l1 h0
        exact ⟨_, rfl, D, _, 0, _, rfl, rfl, SqL.of hD, atN rfl hx, kk px _ G f2 bd.k.to (hX.less fun b z => .inl z) (oks _ (List.getElem_mem _)) (by omega)⟩
theorem ok_te {C f fD fC fW fB : Addr} {fd dD dC dW dB : FuncData} (F : Fun K "_law_term" "_law_term" sTerm f fd) (T : TxtL mg) (cDr : CalN P w K mg base "_law_draw" 1 ["feed", "limit"] spDraw fD dD) (cCh : CalN P w K mg base "_law_chain" 4 ["feed", "wide", "many"] (spCh C) fC dC)
    (cWi : CalN P w K mg base "_law_wide_term" 4 ["feed", "wide"] (spBu C) fW dW) (cBu : CalN P w K mg base "_law_bush" 4 ["feed", "wide"] (spBu C) fB dB) : FnOk P w K mg base CX0 5 f fd ["feed"] (spTe C) := by
  refine F.ok scTe (fun vs H Q E h => ?_) (fun cdv A outer s H vs Q E hr h => ?_)
  · obtain ⟨N, a, cl, rfl, _⟩ := h
    rfl
  · obtain ⟨N, a, cl, rfl, hF, al, na, kk⟩ := h
    have hr1 : Room 1 _ := hr.mono (by decide)
    have hr4 : Room 4 _ := hr
    refine ⟨_, pss_cons (ps_set (i := 1) scTe.nd rfl (.inl rfl) (pe_op RQ.op_mulH pe_int (pe_callTy call_int1 (by rfl) T.int (by decide +kernel) (pa_cons (pe_cmpR op_eq (pe_call cDr.G hr1 rfl cDr.m cDr.kp cDr.b .nil pass0 (pa_cons (pv 0) (pa_cons pe_int pa_nil))) pe_int (nomark _)) pa_nil))))
      (pss_cons (ps_set (i := 2) scTe.nd rfl (.inl rfl) (pe_call cDr.G hr1 rfl cDr.m cDr.kp cDr.b .nil pass0 (pa_cons (pv 0) (pa_cons pe_int pa_nil))))
      (pss_cons (ps_if (pt_cmpR op_eq (pv 2) pe_int (nomark _))
        (pss_one (ps_ret (pe_call cCh.G hr4 rfl cCh.m cCh.kp cCh.b .nil pass0 (pa_cons (pv 0) (pa_cons (pv 1) (pa_cons pe_int pa_nil))))))
        pss_nil)
      (pss_cons (ps_if (pt_cmpR op_lt (pv 2) pe_int (nomark _))
        (pss_one (ps_ret (pe_call cCh.G hr4 rfl cCh.m cCh.kp cCh.b .nil pass0 (pa_cons (pv 0) (pa_cons (pv 1) (pa_cons (pe_call cDr.G hr1 rfl cDr.m cDr.kp cDr.b .nil pass0 (pa_cons (pv 0) (pa_cons pe_int pa_nil))) pa_nil))))))
        pss_nil)
      (pss_cons (ps_if (pt_cmpR op_eq (pv 2) pe_int (nomark _))
        (pss_one (ps_ret (pe_call cWi.G hr4 rfl cWi.m cWi.kp cWi.b .nil pass0 (pa_cons (pv 0) (pa_cons (pv 1) pa_nil)))))
        pss_nil)
      (pss_one (ps_ret (pe_call cBu.G hr4 rfl cBu.m cBu.kp cBu.b .nil pass0 (pa_cons (pv 0) (pa_cons (pv 1) pa_nil))))))))), ?_⟩
    have alc : ∀ {G : Hp}, But a H G → FeedAt G a cl → Alc N G := fun b f => al.keep (Keep.but b na f.there)
    refine ⟨_, rfl, a, cl, 4, rfl, hF, by decide, by decide, fun d3 H2 _ _ f2 b2 => ?_⟩
    refine ⟨rfl, .inr ⟨_, rfl, _, _, rfl, rfl, ⟨⟨4, by decide, show (8 : Int).natAbs < 2 ^ 4 by decide⟩, ⟨3, by decide, ?_⟩⟩, ?_⟩⟩
    · show (if decide (V.int d3 = V.int 0) = true then (1 : Int) else 0).natAbs < 2 ^ 3
      split <;> decide
    obtain ⟨wd0, ewd, w0, w1⟩ : ∃ wd0 : Int, 8 * (if decide (V.int d3 = V.int 0) = true then (1 : Int) else 0) = wd0 ∧ 0 ≤ wd0 ∧ wd0 ≤ 8 := by
      refine ⟨_, rfl, ?_, ?_⟩ <;> (split <;> decide)
    show gName 1 (V.int (8 * (if decide (V.int d3 = V.int 0) = true then (1 : Int) else 0))) _ _ _
    rw [ewd]
    refine ⟨_, rfl, a, cl, 8, rfl, f2, by decide, by decide, fun kd H3 _ _ f3 b3 => ?_⟩
    have b03 := b2.trans b3
    refine ⟨_, rfl, rfl, _, rfl, ite2 (fun _ => ?_) (fun _ => ?_)⟩
    · exact ⟨_, rfl, _, rfl, N, a, cl, wd0, 19, rfl, f3, w0, w1, by decide, alc b03 f3, na, fun r t H4 f4 b4 ht okt st => kk r t H4 f4 (b03.trans b4) ht okt st⟩
    refine ⟨_, rfl, _, _, rfl, rfl, _, rfl, ite2 (fun _ => ?_) (fun _ => ?_)⟩
    · refine ⟨_, rfl, _, rfl, _, rfl, a, cl, 8, rfl, f3, by decide, by decide, fun m H4 m0 m1 f4 b4 => ?_⟩
      obtain ⟨m, rfl⟩ : ∃ j : Nat, m = (j : Int) := ⟨m.toNat, by omega⟩
      have b04 := b03.trans b4
      exact ⟨N, a, cl, wd0, m, rfl, f4, w0, w1, by omega, alc b04 f4, na, fun r t H5 f5 b5 ht okt st => kk r t H5 f5 (b04.trans b5) ht okt st⟩
    refine ⟨_, rfl, rfl, _, rfl, ite2 (fun _ => ?_) (fun _ => ?_)⟩
    · exact ⟨_, rfl, _, rfl, N, a, cl, wd0, rfl, f3, w0, w1, alc b03 f3, na, fun r t H4 f4 b4 ht okt st => kk r t H4 f4 (b03.trans b4) ht okt st⟩
    · exact ⟨_, rfl, _, rfl, N, a, cl, wd0, rfl, f3, w0, w1, alc b03 f3, na, fun r t H4 f4 b4 ht okt st => kk r t H4 f4 (b03.trans b4) ht okt st⟩
end
end RX

set_option Elab.async false
set_option maxRecDepth 100000
namespace RX
open PySem L2
open RQ (Bt)
abbrev sWhole : Stmt := inClass (topS 6) 9
abbrev sRText : Stmt := inClass (topS 6) 10
abbrev sLText : Stmt := topS 25
theorem scTx : FnScope ["one"] ["one"] (defScope sLText) := ⟨rfl, rfl, rfl, by decide +kernel, rfl, by decide +kernel, by decide +kernel⟩
abbrev sMade : Stmt := topS 24
theorem scMd : FnScope ["term"] ["term"] (defScope sMade) := ⟨rfl, rfl, rfl, by decide +kernel, rfl, by decide +kernel, by decide +kernel⟩
abbrev sPart : Stmt := topS 26
theorem scPt : FnScope ["term", "barred"] ["term", "barred"] (defScope sPart) := ⟨rfl, rfl, rfl, by decide +kernel, rfl, by decide +kernel, by decide +kernel⟩
abbrev sWrite : Stmt := topS 27
theorem scWr : FnScope ["term"] ["term"] (defScope sWrite) := ⟨rfl, rfl, rfl, by decide +kernel, rfl, by decide +kernel, by decide +kernel⟩
theorem dint (i j : Int) : decide (V.int i = V.int j) = decide (i = j) := by
  by_cases h : i = j
  · rw [h, decide_eq_true rfl, decide_eq_true rfl]
  · rw [decide_eq_false h, decide_eq_false fun z => h (by injection z)]
def spWhole (C : Addr) : Sp := fun vs H Q _ => ∃ (p : Addr) (n d : Int), vs = [.ref p] ∧ RatAt C H p n d ∧ Q (.bl (decide (d = 1))) H
def spRText (C : Addr) : Sp := fun vs H Q _ => ∃ (p : Addr) (n d : Int), vs = [.ref p] ∧ RatAt C H p n d ∧ Bt 140 n ∧ Bt 140 d ∧ Q (.str (txt n d)) H
def spLText : Sp := fun vs H Q _ => ∃ (p : Addr) (n d : Int), vs = [.ref p] ∧ PairAt H p n d ∧ Bt 140 n ∧ Bt 140 d ∧ Q (.str (txt n d)) H
def spMd (C : Addr) (n : Nat) : Sp := fun vs H Q _ => ∃ (N : Addr → Prop) (p : Addr) (t : Tm), vs = [.ref p] ∧ At C N H (.ref p) t.own ∧ Alc N H ∧ t.ok ∧ t.sz ≤ n ∧
  ∀ (r : Addr) (H' : Hp), Same H H' → At C N H' (.ref r) t.made → Q (.ref r) H'
def spWr (C : Addr) (n : Nat) : Sp := fun vs H Q _ => ∃ (N : Addr → Prop) (p : Addr) (t : Tm), vs = [.ref p] ∧ At C N H (.ref p) t.own ∧ t.ok ∧ t.sz ≤ n ∧ t.sz ≤ 59 ∧ ∀ (H' : Hp), Same H H' → Q (.str t.text) H'
def spPt (C : Addr) (n : Nat) : Sp := fun vs H Q _ => ∃ (N : Addr → Prop) (p l : Addr) (ys : List V) (b : Bool) (t : Tm), vs = [.ref p, .ref l] ∧ At C N H (.ref p) t.own ∧ t.ok ∧ t.sz ≤ n ∧ t.sz ≤ 59 ∧ H l = some (.lst ys) ∧ ys.all flatV = true ∧ inV (.str t.kind) ys = b ∧
  ∀ (H' : Hp), Same H H' → Q (.str (brk b t.text)) H'
theorem line_le {n : Nat} (h : n ≤ 100000) : n ≤ sizeLine := Nat.le_trans h (by decide)
section
variable {P : Program} {w : World} {K : PySem.W.Frag} {mg : Str → Option Value} {base : Heap}
theorem scWh : FnScope ["self"] ["self"] (defScope sWhole) := ⟨rfl, rfl, rfl, by decide +kernel, rfl, by decide +kernel, by decide +kernel⟩
theorem ok_whole {f C : Addr} {fd : FuncData} (F : Fun K "is_whole" "Ratio.is_whole" sWhole f fd) (TR : TxtR K mg C) : FnOk P w K mg base CX0 1 f fd ["self"] (spWhole C) := by
  refine F.ok scWh (fun vs H Q E h => ?_) (fun cdv A outer s H vs Q E hr h => ?_)
  · obtain ⟨p, n, d, rfl, _⟩ := h
    rfl
  · obtain ⟨p, n, d, rfl, ⟨dx, hp⟩, k⟩ := h
    refine ⟨_, pss_one (ps_ret (pe_cmpR op_eq (pe_fld (pv 0) rfl) pe_int (nomark _))), ?_⟩
    refine ⟨_, rfl, p, C, dx, _, _, rfl, hp, TR.cl, TR.nB, rf_bot _ _, rfl, ?_⟩
    show Q (.bl (decide (V.int d = V.int 1))) H
    rw [dint]
    exact k
theorem scRx : FnScope ["self"] ["self"] (defScope sRText) := ⟨rfl, rfl, rfl, by decide +kernel, rfl, by decide +kernel, by decide +kernel⟩
theorem cat0 (x : Str) : Str.empty ++ x = x := by
  have e : (Str.empty ++ x).cps = x.cps := by
    rw [PySem.Str.cps_append]
    exact Array.empty_append
  cases h : Str.empty ++ x
  cases x
  rw [h] at e
  exact congrArg Str.mk e
theorem lg {x : Int} (h : Bt 140 x) : x.natAbs.log2 < 1920 := Nat.lt_of_le_of_lt h.log (by decide)
theorem ok_rtext {f fW C pw' : Addr} {fd fdW : FuncData} (F : Fun K "text" "Ratio.text" sRText f fd) (TR : TxtR K mg C) (po : PropOf K C "is_whole" pw' fW) (GW : FnOk P w K mg base CX0 1 fW fdW ["self"] (spWhole C)) (bW : Binds K fdW ["self"] []) :
    FnOk P w K mg base CX0 3 f fd ["self"] (spRText C) := by
  refine F.ok scRx (fun vs H Q E h => ?_) (fun cdv A outer s H vs Q E hr h => ?_)
  · obtain ⟨p, n, d, rfl, _⟩ := h
    rfl
  · obtain ⟨p, n, d, rfl, ⟨dx, hp⟩, tn, td, k⟩ := h
    refine ⟨_, pss_cons (ps_if (pt_val (pe_prop (pv 0) TR.cl po GW hr bW .nil pass0 rfl)) (pss_one (ps_ret (pe_joined1 (pe_fmt (pe_fld (pv 0) rfl))))) pss_nil)
      (pss_one (ps_ret (pe_joined (PJ.cons (pe_fmt (pe_fld (pv 0) rfl)) (PJ.cons pe_str (PJ.cons (pe_fmt (pe_fld (pv 0) rfl)) PJ.nil)))))), ?_⟩
    have tn' := lg tn
    have td' := lg td
    refine ⟨_, rfl, p, dx, _, rfl, hp, p, n, d, rfl, ⟨dx, hp⟩, _, rfl, ?_⟩
    refine ite2 (fun z => ?_) (fun z => ?_)
    · have z := of_decide_eq_true z
      subst z
      refine ⟨_, rfl, p, C, dx, _, _, rfl, hp, TR.cl, TR.nT, rf_top _ _, .inr ⟨n, rfl, tn', ?_⟩⟩
      exact k
    · have z : ¬ d = 1 := fun e => z (decide_eq_true e)
      have l1 := txlen tn
      have l2 := txlen td
      refine ⟨_, rfl, p, C, dx, _, _, rfl, hp, TR.cl, TR.nT, rf_top _ _, .inr ⟨n, rfl, tn', _, rfl, ?_, ?_⟩⟩
      · rw [cat0]; exact Nat.le_trans l1 (by decide)
      refine ⟨_, rfl, ?_, ?_⟩
      · rw [cat0, PySem.Str.length_append]; exact Nat.le_trans (Nat.add_le_add_right l1 _) (by decide)
      refine ⟨_, rfl, p, C, dx, _, _, rfl, hp, TR.cl, TR.nB, rf_bot _ _, .inr ⟨d, rfl, td', _, rfl, ?_, ?_⟩⟩
      · rw [cat0, PySem.Str.length_append, PySem.Str.length_append]; exact Nat.le_trans (Nat.add_le_add (Nat.add_le_add_right l1 _) l2) (by decide)
      rw [cat0]
      have e : txt n d = (toString n ++ "/") ++ toString d := if_neg z
      rw [e] at k
      exact k
theorem ok_ltext {f : Addr} {fd : FuncData} (F : Fun K "_law_text" "_law_text" sLText f fd) (TPstr : mg "str" = none) : FnOk P w K mg base CX0 1 f fd ["one"] spLText := by
  refine F.ok scTx (fun vs H Q E h => ?_) (fun cdv A outer s H vs Q E hr h => ?_)
  · obtain ⟨p, n, d, rfl, _⟩ := h
    rfl
  · obtain ⟨p, n, d, rfl, hp, tn, td, k⟩ := h
    refine ⟨_, pss_cons (ps_if (pt_cmpR op_eq (pe_ix ix_tup (pv 0) pe_int (fun _ _ => rfl)) pe_int (nomark _))
        (pss_one (ps_ret (pe_callTy call_str_int (by rfl) TPstr (by decide +kernel) (pa_cons (pe_ix ix_tup (pv 0) pe_int (fun _ _ => rfl)) pa_nil))))
        pss_nil)
      (pss_one (ps_ret (pe_op op_add_str (pe_op op_add_str (pe_callTy call_str_int (by rfl) TPstr (by decide +kernel) (pa_cons (pe_ix ix_tup (pv 0) pe_int (fun _ _ => rfl)) pa_nil)) pe_str) (pe_callTy call_str_int (by rfl) TPstr (by decide +kernel) (pa_cons (pe_ix ix_tup (pv 0) pe_int (fun _ _ => rfl)) pa_nil))))), ?_⟩
    have tn' := lg tn
    have td' := lg td
    have l1 := txlen tn
    have l2 := txlen td
    refine ⟨_, rfl, p, _, 1, _, rfl, rfl, hp.t, rfl, rfl, _, rfl, ?_⟩
    rw [dint]
    refine ite2 (fun z => ?_) (fun z => ?_)
    · have z := of_decide_eq_true z
      subst z
      exact ⟨_, rfl, p, _, 0, _, rfl, rfl, hp.t, rfl, _, rfl, tn', k⟩
    · have z : ¬ d = 1 := fun e => z (decide_eq_true e)
      refine ⟨_, rfl, p, _, 0, _, rfl, rfl, hp.t, rfl, _, rfl, tn', _, _, rfl, rfl, Nat.le_trans (Nat.add_le_add_right l1 _) (by decide), _, rfl, p, _, 1, _, rfl, rfl, hp.t, rfl, _, rfl, td', _, _, rfl, rfl, ?_, ?_⟩
      · rw [PySem.Str.length_append]; exact Nat.le_trans (Nat.add_le_add (Nat.add_le_add_right l1 _) l2) (by decide)
      · have e : txt n d = (toString n ++ "/") ++ toString d := if_neg z
        rw [e] at k
        exact k
theorem ok_md {f fI C : Addr} {fd dI : FuncData} (F : Fun K "_law_made" "_law_made" sMade f fd) (TR : TxtR K mg C) (M : Mk K C fI) (GI : FnOk P w K mg base CX0 1 fI dI ["self", "top", "bottom"] (spInit C)) (bI : Binds K dI ["self", "top", "bottom"] [])
    (m : mg "_law_made" = some (.ref f)) (kp : PySem.W.keepIn K (.ref f) = true) (b : Binds K fd ["term"] []) : ∀ n : Nat, FnOk P w K mg base CX0 (n + 3) f fd ["term"] (spMd C n)
  | 0 => by
    refine F.ok scMd (fun vs H Q E h => ?_) (fun cdv A outer s H vs Q E hr h => ?_)
    · obtain ⟨N, p, t, rfl, _⟩ := h
      rfl
    · obtain ⟨N, p, t, rfl, _, _, _, hz, _⟩ := h
      have := t.sz_pos
      omega
  | n + 1 => by
    have cMd : CalN P w K mg base "_law_made" (n + 3) ["term"] (spMd C n) f fd := ⟨ok_md F TR M GI bI m kp b n, m, kp, b⟩
    refine F.ok scMd (fun vs H Q E h => ?_) (fun cdv A outer s H vs Q E hr h => ?_)
    · obtain ⟨N, p, t, rfl, _⟩ := h
      rfl
    · obtain ⟨N, p, t, rfl, hp, al, okt, hz, k⟩ := h
      have hr2 : Room 2 _ := hr.mono (by omega)
      have hrM : Room (n + 3) _ := hr.mono (by omega)
      refine ⟨_, pss_cons (ps_if (pt_cmpR op_eq (pe_ix ix_tup (pv 0) pe_int (fun _ _ => rfl)) pe_str (nomark _))
        (pss_one (ps_ret (pe_tup (pa_cons pe_str (pa_cons (pe_make M GI hr2 rfl TR.mgC bI .nil pass0 (pa_cons (pe_ix ix_tup (pe_ix ix_tup (pv 0) pe_int (fun _ _ => rfl)) pe_int (fun _ _ => rfl)) (pa_cons (pe_ix ix_tup (pe_ix ix_tup (pv 0) pe_int (fun _ _ => rfl)) pe_int (fun _ _ => rfl)) pa_nil))) pa_nil)))))
        pss_nil)
      (pss_cons (ps_if (pt_cmpR op_eq (pe_ix ix_tup (pv 0) pe_int (fun _ _ => rfl)) pe_str (nomark _))
        (pss_one (ps_ret (pv 0)))
        pss_nil)
      (pss_cons (ps_if (pt_cmpR op_eq (pe_ix ix_tup (pv 0) pe_int (fun _ _ => rfl)) pe_str (nomark _))
        (pss_one (ps_ret (pe_tup (pa_cons pe_str (pa_cons (pe_call cMd.G hrM rfl cMd.m cMd.kp cMd.b .nil pass0 (pa_cons (pe_ix ix_tup (pv 0) pe_int (fun _ _ => rfl)) pa_nil)) pa_nil)))))
        pss_nil)
      (pss_one (ps_ret (pe_tup (pa_cons (pe_ix ix_tup (pv 0) pe_int (fun _ _ => rfl)) (pa_cons (pe_call cMd.G hrM rfl cMd.m cMd.kp cMd.b .nil pass0 (pa_cons (pe_ix ix_tup (pv 0) pe_int (fun _ _ => rfl)) pa_nil)) (pa_cons (pe_call cMd.G hrM rfl cMd.m cMd.kp cMd.b .nil pass0 (pa_cons (pe_ix ix_tup (pv 0) pe_int (fun _ _ => rfl)) pa_nil)) pa_nil)))))))), ?_⟩
      cases t with
      | num q =>
        obtain ⟨_, x, e, hp', hx, nN⟩ := at_one hp
        cases e
        obtain ⟨x, rfl, hx, nx⟩ := hx.pair
        refine ⟨_, rfl, p, _, 0, _, rfl, rfl, SqT.of hp', rfl, rfl, _, rfl, iteT' (seqT rfl) ?_⟩
        refine ⟨_, rfl, p, _, 1, _, rfl, rfl, SqT.of hp', rfl, x, _, 0, _, rfl, rfl, hx.t, rfl, _, rfl, p, _, 1, _, rfl, rfl, SqT.of hp', rfl, x, _, 1, _, rfl, rfl, hx.t, rfl, ?_⟩
        refine fun x2 dx nx2 nd ne => ⟨x2, dx, _, _, rfl, upd_same, den_ne q, pw (by decide) okt.2, fun H1 hR kp => ⟨rfl, (by show 2 ≤ sizeLine; decide), fun r2 nr2 => ?_⟩⟩
        have s1 := Same.made nx2 nd kp
        obtain ⟨e1, e2⟩ := RQ.low (den_ne q) (RQ.nd q)
        rw [e1, e2] at hR
        have al1 := al.keep (Same.keep (N := N) s1)
        exact k r2 _ (s1.trans (Same.upd nr2)) (mk_one al1 nr2 (.rat hR (al.fresh nx2)))
      | letter c =>
        obtain ⟨_, x, e, hp', hx, nN⟩ := at_one hp
        cases e
        refine ⟨_, rfl, p, _, 0, _, rfl, rfl, SqT.of hp', rfl, rfl, _, rfl, iteF' (seqF (by decide +kernel)) ?_⟩
        refine ⟨_, rfl, p, _, 0, _, rfl, rfl, SqT.of hp', rfl, rfl, _, rfl, iteT' (seqT rfl) ?_⟩
        exact ⟨_, rfl, k p H (Same.refl _) hp⟩
      | star t =>
        obtain ⟨_, x, e, hp', hx, nN⟩ := at_one hp
        cases e
        obtain ⟨x, rfl⟩ := own_ref hx
        have hz : t.sz + 1 ≤ n + 1 := hz
        refine ⟨_, rfl, p, _, 0, _, rfl, rfl, SqT.of hp', rfl, rfl, _, rfl, iteF' (seqF (by decide +kernel)) ?_⟩
        refine ⟨_, rfl, p, _, 0, _, rfl, rfl, SqT.of hp', rfl, rfl, _, rfl, iteF' (seqF (by decide +kernel)) ?_⟩
        refine ⟨_, rfl, p, _, 0, _, rfl, rfl, SqT.of hp', rfl, rfl, _, rfl, iteT' (seqT rfl) ?_⟩
        refine ⟨_, rfl, p, _, 1, _, rfl, rfl, SqT.of hp', rfl, N, x, t, rfl, hx, al, okt, by omega, fun r H1 s1 hr1 => ⟨(by show 2 ≤ sizeLine; decide), fun r2 nr2 => ?_⟩⟩
        exact k r2 _ (s1.trans (Same.upd nr2)) (mk_one (al.keep (Same.keep (N := N) s1)) nr2 hr1)
      | plus t u =>
        obtain ⟨_, x, y, e, hp', hx, hy, nN⟩ := at_two hp
        cases e
        obtain ⟨x, rfl⟩ := own_ref hx
        obtain ⟨y, rfl⟩ := own_ref hy
        have hz : t.sz + u.sz + 1 ≤ n + 1 := hz
        refine ⟨_, rfl, p, _, 0, _, rfl, rfl, SqT.of hp', rfl, rfl, _, rfl, iteF' (seqF (by decide +kernel)) ?_⟩
        refine ⟨_, rfl, p, _, 0, _, rfl, rfl, SqT.of hp', rfl, rfl, _, rfl, iteF' (seqF (by decide +kernel)) ?_⟩
        refine ⟨_, rfl, p, _, 0, _, rfl, rfl, SqT.of hp', rfl, rfl, _, rfl, iteF' (seqF (by decide +kernel)) ?_⟩
        refine ⟨_, rfl, p, _, 0, _, rfl, rfl, SqT.of hp', rfl, _, rfl, p, _, 1, _, rfl, rfl, SqT.of hp', rfl, N, x, t, rfl, hx, al, okt.1, by omega, fun r H1 s1 hr1 => ?_⟩
        refine ⟨_, rfl, p, _, 2, _, rfl, rfl, SqT.of (s1 _ _ hp'), rfl, N, y, u, rfl, hy.same s1, al.keep (Same.keep (N := N) s1), okt.2, by omega, fun r' H2 s2 hr2 => ⟨(by show 3 ≤ sizeLine; decide), fun r2 nr2 => ?_⟩⟩
        exact k r2 _ (s1.trans (s2.trans (Same.upd nr2))) (mk_two (al.keep (Same.keep (N := N) (s1.trans s2))) nr2 (hr1.same s2) hr2)
      | row t u =>
        obtain ⟨_, x, y, e, hp', hx, hy, nN⟩ := at_two hp
        cases e
        obtain ⟨x, rfl⟩ := own_ref hx
        obtain ⟨y, rfl⟩ := own_ref hy
        have hz : t.sz + u.sz + 1 ≤ n + 1 := hz
        refine ⟨_, rfl, p, _, 0, _, rfl, rfl, SqT.of hp', rfl, rfl, _, rfl, iteF' (seqF (by decide +kernel)) ?_⟩
        refine ⟨_, rfl, p, _, 0, _, rfl, rfl, SqT.of hp', rfl, rfl, _, rfl, iteF' (seqF (by decide +kernel)) ?_⟩
        refine ⟨_, rfl, p, _, 0, _, rfl, rfl, SqT.of hp', rfl, rfl, _, rfl, iteF' (seqF (by decide +kernel)) ?_⟩
        refine ⟨_, rfl, p, _, 0, _, rfl, rfl, SqT.of hp', rfl, _, rfl, p, _, 1, _, rfl, rfl, SqT.of hp', rfl, N, x, t, rfl, hx, al, okt.1, by omega, fun r H1 s1 hr1 => ?_⟩
        refine ⟨_, rfl, p, _, 2, _, rfl, rfl, SqT.of (s1 _ _ hp'), rfl, N, y, u, rfl, hy.same s1, al.keep (Same.keep (N := N) s1), okt.2, by omega, fun r' H2 s2 hr2 => ⟨(by show 3 ≤ sizeLine; decide), fun r2 nr2 => ?_⟩⟩
        exact k r2 _ (s1.trans (s2.trans (Same.upd nr2))) (mk_two (al.keep (Same.keep (N := N) (s1.trans s2))) nr2 (hr1.same s2) hr2)
theorem ok_pt {f fW C : Addr} {fd dW : FuncData} {n : Nat} (F : Fun K "_law_part" "_law_part" sPart f fd) (cWr : CalN P w K mg base "_law_write" (2 * n + 2) ["term"] (spWr C n) fW dW) : FnOk P w K mg base CX0 (2 * n + 3) f fd ["term", "barred"] (spPt C n) := by
  refine F.ok scPt (fun vs H Q E h => ?_) (fun cdv A outer s H vs Q E hr h => ?_)
  · obtain ⟨N, p, l, ys, b, t, rfl, _⟩ := h
    rfl
  · obtain ⟨N, p, l, ys, b, t, rfl, hp, okt, hz, h59, hl, hf, hb, k⟩ := h
    have hrW : Room (2 * n + 2) _ := hr.mono (by omega)
    refine ⟨_, pss_cons (ps_if (pt_cmpR op_in_seq (pe_ix ix_tup (pv 0) pe_int (fun _ _ => rfl)) (pv 1) (by rfl))
        (pss_one (ps_ret (pe_op op_add_str (pe_op op_add_str pe_str (pe_call cWr.G hrW rfl cWr.m cWr.kp cWr.b .nil pass0 (pa_cons (pv 0) pa_nil))) pe_str)))
        pss_nil)
      (pss_one (ps_ret (pe_call cWr.G hrW rfl cWr.m cWr.kp cWr.b .nil pass0 (pa_cons (pv 0) pa_nil)))), ?_⟩
    obtain ⟨xs, hx, h0⟩ := own_head hp
    refine ⟨_, rfl, p, _, 0, _, rfl, rfl, SqT.of hx, at0 h0, _, rfl, l, ys, rfl, .inl (SqL.of hl), rfl, hf, _, rfl, ?_⟩
    have tl := t.text_len okt
    have q1 : ("(" : Str).length = 1 := rfl
    have q2 : (")" : Str).length = 1 := rfl
    cases b with
    | true =>
      refine iteT' hb ?_
      refine ⟨_, rfl, N, p, t, rfl, hp, okt, hz, h59, fun H1 s1 => ⟨_, _, rfl, rfl, line_le (by omega), _, _, rfl, rfl, ?_, k H1 s1⟩⟩
      rw [str_len]
      exact line_le (by omega)
    | false =>
      refine iteF' hb ?_
      exact ⟨_, rfl, N, p, t, rfl, hp, okt, hz, h59, fun H1 s1 => k H1 s1⟩
theorem ok_wr {f fP fT C : Addr} {fd dP dT : FuncData} (F : Fun K "_law_write" "_law_write" sWrite f fd) (FP : Fun K "_law_part" "_law_part" sPart fP dP) (cTx : CalN P w K mg base "_law_text" 1 ["one"] spLText fT dT)
    (m : mg "_law_write" = some (.ref f)) (kp : PySem.W.keepIn K (.ref f) = true) (b : Binds K fd ["term"] []) (mP : mg "_law_part" = some (.ref fP)) (kpP : PySem.W.keepIn K (.ref fP) = true) (bP : Binds K dP ["term", "barred"] []) : ∀ n : Nat, FnOk P w K mg base CX0 (2 * n + 2) f fd ["term"] (spWr C n)
  | 0 => by
    refine F.ok scWr (fun vs H Q E h => ?_) (fun cdv A outer s H vs Q E hr h => ?_)
    · obtain ⟨N, p, t, rfl, _⟩ := h
      rfl
    · obtain ⟨N, p, t, rfl, _, _, hz, _⟩ := h
      have := t.sz_pos
      omega
  | n + 1 => by
    have cWr : CalN P w K mg base "_law_write" (2 * n + 2) ["term"] (spWr C n) f fd := ⟨ok_wr F FP cTx m kp b mP kpP bP n, m, kp, b⟩
    have cPt : CalN P w K mg base "_law_part" (2 * n + 3) ["term", "barred"] (spPt C n) fP dP := ⟨ok_pt FP cWr, mP, kpP, bP⟩
    refine F.ok scWr (fun vs H Q E h => ?_) (fun cdv A outer s H vs Q E hr h => ?_)
    · obtain ⟨N, p, t, rfl, _⟩ := h
      rfl
    · obtain ⟨N, p, t, rfl, hp, okt, hz, h59, k⟩ := h
      have hr1 : Room 1 _ := hr.mono (by omega)
      have hrW : Room (2 * n + 2) _ := hr.mono (by omega)
      have hrP : Room (2 * n + 3) _ := hr.mono (by omega)
      refine ⟨_, pss_cons (ps_if (pt_cmpR op_eq (pe_ix ix_tup (pv 0) pe_int (fun _ _ => rfl)) pe_str (nomark _))
        (pss_one (ps_ret (pe_call cTx.G hr1 rfl cTx.m cTx.kp cTx.b .nil pass0 (pa_cons (pe_ix ix_tup (pv 0) pe_int (fun _ _ => rfl)) pa_nil))))
        pss_nil)
      (pss_cons (ps_if (pt_cmpR op_eq (pe_ix ix_tup (pv 0) pe_int (fun _ _ => rfl)) pe_str (nomark _))
        (pss_one (ps_ret (pe_ix ix_tup (pv 0) pe_int (fun _ _ => rfl))))
        pss_nil)
      (pss_cons (ps_if (pt_cmpR op_eq (pe_ix ix_tup (pv 0) pe_int (fun _ _ => rfl)) pe_str (nomark _))
        (pss_one (ps_ret (pe_op op_add_str (pe_op op_add_str (pe_call cWr.G hrW rfl cWr.m cWr.kp cWr.b .nil pass0 (pa_cons (pe_ix ix_tup (pv 0) pe_int (fun _ _ => rfl)) pa_nil)) pe_str) (pe_call cPt.G hrP rfl cPt.m cPt.kp cPt.b .nil pass0 (pa_cons (pe_ix ix_tup (pv 0) pe_int (fun _ _ => rfl)) (pa_cons (pe_lst (pa_cons pe_str pa_nil)) pa_nil))))))
        pss_nil)
      (pss_cons (ps_if (pt_cmpR op_eq (pe_ix ix_tup (pv 0) pe_int (fun _ _ => rfl)) pe_str (nomark _))
        (pss_one (ps_ret (pe_op op_add_str (pe_op op_add_str (pe_call cPt.G hrP rfl cPt.m cPt.kp cPt.b .nil pass0 (pa_cons (pe_ix ix_tup (pv 0) pe_int (fun _ _ => rfl)) (pa_cons (pe_lst (pa_cons pe_str pa_nil)) pa_nil))) pe_str) (pe_call cPt.G hrP rfl cPt.m cPt.kp cPt.b .nil pass0 (pa_cons (pe_ix ix_tup (pv 0) pe_int (fun _ _ => rfl)) (pa_cons (pe_lst (pa_cons pe_str (pa_cons pe_str pa_nil))) pa_nil))))))
        pss_nil)
      (pss_one (ps_ret (pe_op op_add_str (pe_call cPt.G hrP rfl cPt.m cPt.kp cPt.b .nil pass0 (pa_cons (pe_ix ix_tup (pv 0) pe_int (fun _ _ => rfl)) (pa_cons (pe_lst (pa_cons pe_str (pa_cons pe_str pa_nil))) pa_nil))) pe_str)))))), ?_⟩
      have fits : ∀ {a b : Str}, a.length ≤ 30000 → b.length ≤ 30000 → a.length + b.length ≤ sizeLine := fun x y => line_le (by omega)
      have tl : ∀ x : Tm, x.ok → x.sz ≤ 59 → x.text.length ≤ 17700 := fun x h1 h2 => by have := x.text_len h1; omega
      have bl : ∀ (x : Tm) (b : Bool), x.ok → x.sz ≤ 59 → (brk b x.text).length ≤ 17702 := fun x b h1 h2 => by have := tl x h1 h2; have := brk_len b x.text; omega
      have q1 : ("+" : Str).length = 1 := rfl
      have q2 : ("." : Str).length = 1 := rfl
      have q3 : ("*" : Str).length = 1 := rfl
      cases t with
      | num q =>
        obtain ⟨_, x, e, hp', hx, nN⟩ := at_one hp
        cases e
        obtain ⟨x, rfl, hx, nx⟩ := hx.pair
        refine ⟨_, rfl, p, _, 0, _, rfl, rfl, SqT.of hp', rfl, rfl, _, rfl, iteT' (seqT rfl) ?_⟩
        exact ⟨_, rfl, p, _, 1, _, rfl, rfl, SqT.of hp', rfl, x, _, _, rfl, hx, okt.1, okt.2, k H (Same.refl _)⟩
      | letter c =>
        obtain ⟨_, x, e, hp', hx, nN⟩ := at_one hp
        cases e
        have := hx.strV
        subst this
        refine ⟨_, rfl, p, _, 0, _, rfl, rfl, SqT.of hp', rfl, rfl, _, rfl, iteF' (seqF (by decide +kernel)) ?_⟩
        refine ⟨_, rfl, p, _, 0, _, rfl, rfl, SqT.of hp', rfl, rfl, _, rfl, iteT' (seqT rfl) ?_⟩
        exact ⟨_, rfl, p, _, 1, _, rfl, rfl, SqT.of hp', rfl, k H (Same.refl _)⟩
      | plus t u =>
        obtain ⟨_, x, y, e, hp', hx, hy, nN⟩ := at_two hp
        cases e
        obtain ⟨x, rfl⟩ := own_ref hx
        obtain ⟨y, rfl⟩ := own_ref hy
        have hz : t.sz + u.sz + 1 ≤ n + 1 := hz
        have h59 : t.sz + u.sz + 1 ≤ 59 := h59
        have l1 := tl t okt.1 (by omega)
        have l2 := bl u u.isP okt.2 (by omega)
        refine ⟨_, rfl, p, _, 0, _, rfl, rfl, SqT.of hp', rfl, rfl, _, rfl, iteF' (seqF (by decide +kernel)) ?_⟩
        refine ⟨_, rfl, p, _, 0, _, rfl, rfl, SqT.of hp', rfl, rfl, _, rfl, iteF' (seqF (by decide +kernel)) ?_⟩
        refine ⟨_, rfl, p, _, 0, _, rfl, rfl, SqT.of hp', rfl, rfl, _, rfl, iteT' (seqT rfl) ?_⟩
        refine ⟨_, rfl, p, _, 1, _, rfl, rfl, SqT.of hp', rfl, N, x, t, rfl, hx, okt.1, by omega, by omega, fun H1 s1 => ⟨_, _, rfl, rfl, fits (by omega) (by omega), ?_⟩⟩
        refine ⟨_, rfl, p, _, 2, _, rfl, rfl, SqT.of (s1 _ _ hp'), rfl, (by show 1 ≤ sizeLine; decide), fun l nl => ?_⟩
        have s2 := s1.trans (Same.upd (o := .lst [.str "plus"]) nl)
        exact ⟨N, y, l, _, u.isP, u, rfl, hy.same s2, okt.2, by omega, by omega, upd_same, rfl, inP u, fun H3 s3 => ⟨_, _, rfl, rfl, fits (by rw [str_len]; omega) (by omega), k H3 (s2.trans s3)⟩⟩
      | row t u =>
        obtain ⟨_, x, y, e, hp', hx, hy, nN⟩ := at_two hp
        cases e
        obtain ⟨x, rfl⟩ := own_ref hx
        obtain ⟨y, rfl⟩ := own_ref hy
        have hz : t.sz + u.sz + 1 ≤ n + 1 := hz
        have h59 : t.sz + u.sz + 1 ≤ 59 := h59
        have l1 := bl t t.isP okt.1 (by omega)
        have l2 := bl u u.isPR okt.2 (by omega)
        refine ⟨_, rfl, p, _, 0, _, rfl, rfl, SqT.of hp', rfl, rfl, _, rfl, iteF' (seqF (by decide +kernel)) ?_⟩
        refine ⟨_, rfl, p, _, 0, _, rfl, rfl, SqT.of hp', rfl, rfl, _, rfl, iteF' (seqF (by decide +kernel)) ?_⟩
        refine ⟨_, rfl, p, _, 0, _, rfl, rfl, SqT.of hp', rfl, rfl, _, rfl, iteF' (seqF (by decide +kernel)) ?_⟩
        refine ⟨_, rfl, p, _, 0, _, rfl, rfl, SqT.of hp', rfl, rfl, _, rfl, iteT' (seqT rfl) ?_⟩
        refine ⟨_, rfl, p, _, 1, _, rfl, rfl, SqT.of hp', rfl, (by show 1 ≤ sizeLine; decide), fun l nl => ?_⟩
        have s1 := Same.upd (o := .lst [.str "plus"]) nl
        refine ⟨N, x, l, _, t.isP, t, rfl, hx.same s1, okt.1, by omega, by omega, upd_same, rfl, inP t, fun H2 s2 => ⟨_, _, rfl, rfl, fits (by omega) (by omega), ?_⟩⟩
        have s2 := s1.trans s2
        refine ⟨_, rfl, p, _, 2, _, rfl, rfl, SqT.of (s2 _ _ hp'), rfl, (by show 2 ≤ sizeLine; decide), fun l2 nl2 => ?_⟩
        have s3 := s2.trans (Same.upd (o := .lst [.str "plus", .str "row"]) nl2)
        exact ⟨N, y, l2, _, u.isPR, u, rfl, hy.same s3, okt.2, by omega, by omega, upd_same, rfl, inPR u, fun H4 s4 => ⟨_, _, rfl, rfl, fits (by rw [str_len]; omega) (by omega), k H4 (s3.trans s4)⟩⟩
      | star t =>
        obtain ⟨_, x, e, hp', hx, nN⟩ := at_one hp
        cases e
        obtain ⟨x, rfl⟩ := own_ref hx
        have hz : t.sz + 1 ≤ n + 1 := hz
        have h59 : t.sz + 1 ≤ 59 := h59
        have okt : t.ok := okt
        have l1 := bl t t.isPR okt (by omega)
        refine ⟨_, rfl, p, _, 0, _, rfl, rfl, SqT.of hp', rfl, rfl, _, rfl, iteF' (seqF (by decide +kernel)) ?_⟩
        refine ⟨_, rfl, p, _, 0, _, rfl, rfl, SqT.of hp', rfl, rfl, _, rfl, iteF' (seqF (by decide +kernel)) ?_⟩
        refine ⟨_, rfl, p, _, 0, _, rfl, rfl, SqT.of hp', rfl, rfl, _, rfl, iteF' (seqF (by decide +kernel)) ?_⟩
        refine ⟨_, rfl, p, _, 0, _, rfl, rfl, SqT.of hp', rfl, rfl, _, rfl, iteF' (seqF (by decide +kernel)) ?_⟩
        refine ⟨_, rfl, p, _, 1, _, rfl, rfl, SqT.of hp', rfl, (by show 2 ≤ sizeLine; decide), fun l2 nl2 => ?_⟩
        have s3 := Same.upd (o := .lst [.str "plus", .str "row"]) nl2
        exact ⟨N, x, l2, _, t.isPR, t, rfl, hx.same s3, okt, by omega, by omega, upd_same, rfl, inPR t, fun H4 s4 => ⟨_, _, rfl, rfl, fits (by omega) (by omega), k H4 (s3.trans s4)⟩⟩
end
end RX

set_option Elab.async false
set_option maxRecDepth 100000
namespace RX
open PySem L2
open RQ (Bt)
abbrev sHe : Stmt := topS 10
theorem scHe : FnScope ["term", "kinds"] ["term", "kinds"] (defScope sHe) := ⟨rfl, rfl, rfl, by decide +kernel, rfl, by decide +kernel, by decide +kernel⟩
abbrev sPi : Stmt := topS 9
theorem scPi : FnScope ["term", "kind"] ["term"] (defScope sPi) := ⟨rfl, rfl, rfl, by decide +kernel, rfl, by decide +kernel, by decide +kernel⟩
abbrev sWs : Stmt := topS 8
theorem scWs : FnScope ["term", "signs", "waiting", "item"] ["term"] (defScope sWs) := ⟨rfl, rfl, rfl, by decide +kernel, rfl, by decide +kernel, by decide +kernel⟩
theorem joinL_flat : ∀ us : List (List Nat), TL.joinL [] us = us.flatten
  | [] => rfl
  | [x] => by show x = [x].flatten; rw [List.flatten_cons, List.flatten_nil, List.append_nil]
  | x :: y :: r => by
    have ih := joinL_flat (y :: r)
    show x ++ ([] ++ TL.joinL [] (y :: r)) = _
    rw [ih]
    rfl
theorem S_cl (s : Str) : SX.S (cl s) = s := cl_inj (by show (SX.S (cl s)).cps.toList = _; show ((cl s).toArray).toList = cl s; exact List.toList_toArray)
theorem join_cl (ys : List Str) : cl (Txt.join (Str.ofString "") ys) = (ys.map cl).flatten := by
  have e := SX.join_S [] (ys.map cl)
  rw [joinL_flat, List.map_map] at e
  have f : ys.map (SX.S ∘ cl) = ys := (List.map_congr_left (f := SX.S ∘ cl) (g := id) fun s _ => S_cl s).trans (List.map_id _)
  rw [f] at e
  rw [show Str.ofString "" = SX.S [] from rfl, e]
  exact List.toList_toArray
theorem len_wts : ∀ its : List It, its.length ≤ wts its
  | [] => Nat.le_refl _
  | i :: its => by
    have ih := len_wts its
    show its.length + 1 ≤ i.wt + wts its
    have : 1 ≤ i.wt := by
      cases i with
      | s z => exact Nat.le_refl _
      | t u => have := u.sz_pos; show 1 ≤ 7 * u.sz; omega
    omega
theorem sum_cl : ∀ ys : List Str, (ys.map (·.length)).sum = (ys.map cl).flatten.length
  | [] => rfl
  | y :: ys => by
    have ih := sum_cl ys
    show y.length + (ys.map (·.length)).sum = (cl y ++ (ys.map cl).flatten).length
    rw [List.length_append, ih]
    rfl
def itD (l : List It) : List Dat := l.map It.dat
theorem itD_app (l m : List It) : itD (l ++ m) = itD l ++ itD m := List.map_append
theorem itD_rev (l : List It) : itD l.reverse = (itD l).reverse := List.map_reverse
theorem itD_len (l : List It) : (itD l).length = l.length := List.length_map _
theorem split_last {α : Type} (l : List α) (h : l ≠ []) : ∃ l0 x, l = l0 ++ [x] := ⟨l.dropLast, l.getLast h, (List.dropLast_concat_getLast h).symm⟩
structure MetN (P : Program) (w : World) (K : PySem.W.Frag) (mg : Str → Option Value) (base : Heap) (C : Addr) (x : Str) (k : Nat) (ps : List Str) (sp : Sp) (f : Addr) (fd : FuncData) : Prop where
  G : FnOk P w K mg base CX0 k f fd ps sp
  m : Meth K C x f
  b : Binds K fd ps []
def spHe (C : Addr) : Sp := fun vs H Q _ => ∃ (N : Addr → Prop) (p l : Addr) (ks : List V) (b : Bool) (t : Tm), vs = [.ref p, .ref l] ∧ At C N H (.ref p) t.made ∧ H l = some (.tup ks) ∧ ks.all flatV = true ∧ inV (.str t.kind) ks = b ∧
  ∀ (r : Addr) (xs : List V) (H' : Hp), Same H H' → H r = none → H' r = some (.lst xs) → Its C N H' xs (itD (held b t)) → Q (.ref r) H'
def spPi (C : Addr) : Sp := fun vs H Q _ => ∃ (N : Addr → Prop) (p : Addr) (t : Tm), vs = [.ref p] ∧ At C N H (.ref p) t.made ∧ t.ok ∧
  ∀ (r : Addr) (xs : List V) (H' : Hp), Same H H' → H r = none → H' r = some (.lst xs) → Its C N H' xs (itD (pieces t)) → Q (.ref r) H'
def spWs (C : Addr) : Sp := fun vs H Q _ => ∃ (N : Addr → Prop) (p : Addr) (t : Tm), vs = [.ref p] ∧ At C N H (.ref p) t.made ∧ Alc N H ∧ t.ok ∧ t.sz ≤ 59 ∧ ∀ (H' : Hp), Same H H' → Q (.str t.text) H'
section
variable {P : Program} {w : World} {K : PySem.W.Frag} {mg : Str → Option Value} {base : Heap}
theorem ok_he {f C : Addr} {fd : FuncData} (F : Fun K "_held" "_held" sHe f fd) : FnOk P w K mg base CX0 1 f fd ["term", "kinds"] (spHe C) := by
  refine F.ok scHe (fun vs H Q E h => ?_) (fun cdv A outer s H vs Q E hr h => ?_)
  · obtain ⟨N, p, l, ks, b, t, rfl, _⟩ := h
    rfl
  · obtain ⟨N, p, l, ks, b, t, rfl, hp, hl, hf, hb, k⟩ := h
    refine ⟨_, pss_one (ps_ret (pe_ifExp (pt_cmpR op_in_seq (pe_ix ix_tup (pv 0) pe_int (fun _ _ => rfl)) (pv 1) (by rfl)) (pe_lst (pa_cons pe_str (pa_cons (pv 0) (pa_cons pe_str pa_nil)))) (pe_lst (pa_cons (pv 0) pa_nil)))), ?_⟩
    obtain ⟨xs, hx, h0⟩ := made_head hp
    refine ⟨_, rfl, p, _, 0, _, rfl, rfl, SqT.of hx, at0 h0, _, rfl, l, ks, rfl, .inr (SqT.of hl), rfl, hf, _, rfl, ?_⟩
    cases b with
    | true =>
      refine iteT' hb ?_
      refine ⟨_, rfl, (by show 3 ≤ sizeLine; decide), fun r nr => ?_⟩
      refine k r _ _ (Same.upd nr) nr upd_same (Its.keep ?_ (Keep.new nr))
      exact Its.cons (.str _) (Its.cons hp (Its.cons (.str _) Its.nil))
    | false =>
      refine iteF' hb ?_
      refine ⟨_, rfl, (by show 1 ≤ sizeLine; decide), fun r nr => ?_⟩
      exact k r _ _ (Same.upd nr) nr upd_same (Its.keep (Its.cons hp Its.nil) (Keep.new nr))
theorem held_len (b : Bool) (t : Tm) : (held b t).length ≤ 3 := by
  unfold held
  split
  · exact Nat.le_refl _
  · show 1 ≤ 3; decide
theorem ok_pi {f fR fH C : Addr} {fd dR dH : FuncData} (F : Fun K "_pieces" "_pieces" sPi f fd) (TR : TxtR K mg C) (cRx : MetN P w K mg base C "text" 3 ["self"] (spRText C) fR dR) (cHe : CalN P w K mg base "_held" 1 ["term", "kinds"] (spHe C) fH dH) :
    FnOk P w K mg base CX0 4 f fd ["term"] (spPi C) := by
  refine F.ok scPi (fun vs H Q E h => ?_) (fun cdv A outer s H vs Q E hr h => ?_)
  · obtain ⟨N, p, t, rfl, _⟩ := h
    rfl
  · obtain ⟨N, p, t, rfl, hp, okt, k⟩ := h
    have hr1 : Room 1 _ := hr.mono (by decide)
    have hr3 : Room 3 _ := hr
    refine ⟨_, pss_cons (ps_set (i := 1) scPi.nd rfl (.inl rfl) (pe_ix ix_tup (pv 0) pe_int (fun _ _ => rfl)))
      (pss_cons (ps_if (pt_cmpR op_eq (pv 1) pe_str (nomark _))
        (pss_one (ps_ret (pe_lst (pa_cons (pe_meth0 (pe_ix ix_tup (pv 0) pe_int (fun _ _ => rfl)) TR.cl cRx.m cRx.G hr3 cRx.b .nil pass0) pa_nil))))
        pss_nil)
      (pss_cons (ps_if (pt_cmpR op_eq (pv 1) pe_str (nomark _))
        (pss_one (ps_ret (pe_lst (pa_cons (pe_ix ix_tup (pv 0) pe_int (fun _ _ => rfl)) pa_nil))))
        pss_nil)
      (pss_cons (ps_if (pt_cmpR op_eq (pv 1) pe_str (nomark _))
        (pss_one (ps_ret (pe_op op_cat (pe_lst (pa_cons (pe_ix ix_tup (pv 0) pe_int (fun _ _ => rfl)) (pa_cons pe_str pa_nil))) (pe_call cHe.G hr1 rfl cHe.m cHe.kp cHe.b .nil pass0 (pa_cons (pe_ix ix_tup (pv 0) pe_int (fun _ _ => rfl)) (pa_cons (pe_tup (pa_cons pe_str pa_nil)) pa_nil))))))
        pss_nil)
      (pss_cons (ps_if (pt_cmpR op_eq (pv 1) pe_str (nomark _))
        (pss_one (ps_ret (pe_op op_cat (pe_op op_cat (pe_call cHe.G hr1 rfl cHe.m cHe.kp cHe.b .nil pass0 (pa_cons (pe_ix ix_tup (pv 0) pe_int (fun _ _ => rfl)) (pa_cons (pe_tup (pa_cons pe_str pa_nil)) pa_nil))) (pe_lst (pa_cons pe_str pa_nil))) (pe_call cHe.G hr1 rfl cHe.m cHe.kp cHe.b .nil pass0 (pa_cons (pe_ix ix_tup (pv 0) pe_int (fun _ _ => rfl)) (pa_cons (pe_tup (pa_cons pe_str (pa_cons pe_str pa_nil))) pa_nil))))))
        pss_nil)
      (pss_one (ps_ret (pe_op op_cat (pe_call cHe.G hr1 rfl cHe.m cHe.kp cHe.b .nil pass0 (pa_cons (pe_ix ix_tup (pv 0) pe_int (fun _ _ => rfl)) (pa_cons (pe_tup (pa_cons pe_str (pa_cons pe_str pa_nil))) pa_nil))) (pe_lst (pa_cons pe_str pa_nil))))))))), ?_⟩
    have few : ∀ {xs ys : List V} {l m : List It}, xs.length = (itD l).length → ys.length = (itD m).length → l.length ≤ 10 → m.length ≤ 10 → xs.length + ys.length ≤ sizeLine := fun {xs ys l m} h1 h2 h3 h4 => by
      rw [itD_len] at h1 h2
      exact line_le (by omega)
    have hd : ∀ b t, (held b t).length ≤ 10 := fun b t => Nat.le_trans (held_len b t) (by decide)
    cases t with
    | num q =>
      obtain ⟨_, x, e, hp', hx, nN⟩ := at_one hp
      cases e
      obtain ⟨x, rfl, hR⟩ := hx.ratV
      refine ⟨_, rfl, p, _, 0, _, rfl, rfl, SqT.of hp', rfl, _, rfl, rfl, _, rfl, iteT' (seqT rfl) ?_⟩
      obtain ⟨dx, hR'⟩ := hR
      refine ⟨_, rfl, p, _, 1, _, rfl, rfl, SqT.of hp', rfl, x, dx, _, rfl, hR', rf_no _ _ (by decide +kernel) (by decide +kernel), x, _, _, rfl, ⟨dx, hR'⟩, okt.1, okt.2, (by show 1 ≤ sizeLine; decide), fun r nr => ?_⟩
      exact k r _ _ (Same.upd nr) nr upd_same (Its.keep (Its.cons (.str _) Its.nil) (Keep.new nr))
    | letter c =>
      obtain ⟨_, x, e, hp', hx, nN⟩ := at_one hp
      cases e
      refine ⟨_, rfl, p, _, 0, _, rfl, rfl, SqT.of hp', rfl, _, rfl, rfl, _, rfl, iteF' (seqF (by decide +kernel)) ?_⟩
      refine ⟨_, rfl, rfl, _, rfl, iteT' (seqT rfl) ?_⟩
      refine ⟨_, rfl, p, _, 1, _, rfl, rfl, SqT.of hp', rfl, (by show 1 ≤ sizeLine; decide), fun r nr => ?_⟩
      exact k r _ _ (Same.upd nr) nr upd_same (Its.keep (Its.cons hx Its.nil) (Keep.new nr))
    | plus t u =>
      obtain ⟨_, x, y, e, hp', hx, hy, nN⟩ := at_two hp
      cases e
      obtain ⟨x, rfl⟩ := made_ref hx
      obtain ⟨y, rfl⟩ := made_ref hy
      refine ⟨_, rfl, p, _, 0, _, rfl, rfl, SqT.of hp', rfl, _, rfl, rfl, _, rfl, iteF' (seqF (by decide +kernel)) ?_⟩
      refine ⟨_, rfl, rfl, _, rfl, iteF' (seqF (by decide +kernel)) ?_⟩
      refine ⟨_, rfl, rfl, _, rfl, iteT' (seqT rfl) ?_⟩
      refine ⟨_, rfl, p, _, 1, _, rfl, rfl, SqT.of hp', rfl, (by show 2 ≤ sizeLine; decide), fun l nl => ?_⟩
      have s1 := Same.upd (o := .lst [.ref x, .str "+"]) nl
      have hl := upd_same (H := H) (a := l) (o := .lst [.ref x, .str "+"])
      have I1 : Its C N (upd H l (.lst [.ref x, .str "+"])) [.ref x, .str "+"] (itD [.t t, .s "+"]) := Its.keep (Its.cons hx (Its.cons (.str _) Its.nil)) (Same.keep s1)
      generalize upd H l (.lst [.ref x, .str "+"]) = H1 at *
      refine ⟨_, rfl, p, _, 2, _, rfl, rfl, SqT.of (s1 _ _ hp'), rfl, (by show 1 ≤ sizeLine; decide), fun b nb => ?_⟩
      have s2 := Same.upd (o := .tup [.str "plus"]) nb
      have hb := upd_same (H := H1) (a := b) (o := .tup [.str "plus"])
      generalize upd H1 b (.tup [.str "plus"]) = H2 at *
      refine ⟨N, y, b, _, u.isP, u, rfl, (hy.same s1).same s2, hb, rfl, inP u, fun r zs H3 s3 nr hr3' I3 => ?_⟩
      have I1 := (I1.keep (Same.keep s2)).keep (Same.keep s3)
      refine ⟨l, r, _, _, rfl, rfl, s3 _ _ (s2 _ _ hl), hr3', few I1.1 I3.1 (by show 2 ≤ 10; decide) (hd _ _), fun r2 nr2 => ?_⟩
      have s := s1.trans (s2.trans s3)
      refine k r2 _ _ (s.trans (Same.upd nr2)) ((Same.keep (N := N) s).free nr2) upd_same (Its.keep ?_ (Keep.new nr2))
      show Its C N H3 _ (itD ([It.t t, .s "+"] ++ held u.isP u))
      rw [itD_app]
      exact I1.app I3
    | row t u =>
      obtain ⟨_, x, y, e, hp', hx, hy, nN⟩ := at_two hp
      cases e
      obtain ⟨x, rfl⟩ := made_ref hx
      obtain ⟨y, rfl⟩ := made_ref hy
      refine ⟨_, rfl, p, _, 0, _, rfl, rfl, SqT.of hp', rfl, _, rfl, rfl, _, rfl, iteF' (seqF (by decide +kernel)) ?_⟩
      refine ⟨_, rfl, rfl, _, rfl, iteF' (seqF (by decide +kernel)) ?_⟩
      refine ⟨_, rfl, rfl, _, rfl, iteF' (seqF (by decide +kernel)) ?_⟩
      refine ⟨_, rfl, rfl, _, rfl, iteT' (seqT rfl) ?_⟩
      refine ⟨_, rfl, p, _, 1, _, rfl, rfl, SqT.of hp', rfl, (by show 1 ≤ sizeLine; decide), fun b nb => ?_⟩
      have s1 := Same.upd (o := .tup [.str "plus"]) nb
      have hb := upd_same (H := H) (a := b) (o := .tup [.str "plus"])
      generalize upd H b (.tup [.str "plus"]) = H1 at *
      refine ⟨N, x, b, _, t.isP, t, rfl, hx.same s1, hb, rfl, inP t, fun r zs H3 s3 nr hr3' I3 => ?_⟩
      have s := s1.trans s3
      refine ⟨(by show 1 ≤ sizeLine; decide), fun l nl => ?_⟩
      have s4 := Same.upd (o := .lst [.str "."]) nl
      have hl := upd_same (H := H3) (a := l) (o := .lst [.str "."])
      have I4 : Its C N (upd H3 l (.lst [.str "."])) [.str "."] (itD [.s "."]) := Its.cons (.str _) Its.nil
      have I3 := I3.keep (Same.keep s4)
      have hr4 := s4 _ _ hr3'
      have s := s.trans s4
      generalize upd H3 l (.lst [.str "."]) = H4 at *
      refine ⟨r, l, _, _, rfl, rfl, hr4, hl, few I3.1 I4.1 (hd _ _) (by decide), fun r2 nr2 => ?_⟩
      have s5 := Same.upd (o := .lst (zs ++ [.str "."])) nr2
      have hr5 := upd_same (H := H4) (a := r2) (o := .lst (zs ++ [.str "."]))
      have I5 := (I3.app I4).keep (Same.keep s5)
      have s := s.trans s5
      generalize upd H4 r2 (.lst (zs ++ [.str "."])) = H5 at *
      refine ⟨_, rfl, p, _, 2, _, rfl, rfl, SqT.of (s _ _ hp'), rfl, (by show 2 ≤ sizeLine; decide), fun b2 nb2 => ?_⟩
      have s6 := Same.upd (o := .tup [.str "plus", .str "row"]) nb2
      have hb6 := upd_same (H := H5) (a := b2) (o := .tup [.str "plus", .str "row"])
      have I6 := I5.keep (Same.keep s6)
      have hr6 := s6 _ _ hr5
      have s := s.trans s6
      generalize upd H5 b2 (.tup [.str "plus", .str "row"]) = H6 at *
      refine ⟨N, y, b2, _, u.isPR, u, rfl, hy.same s, hb6, rfl, inPR u, fun r' zs' H7 s7 nr' hr7 I7 => ?_⟩
      have I6 := I6.keep (Same.keep s7)
      refine ⟨r2, r', _, _, rfl, rfl, s7 _ _ hr6, hr7, ?_, fun r3 nr3 => ?_⟩
      · have e1 := I6.1
        have e2 := I7.1
        rw [← itD_app, itD_len, List.length_append (as := held t.isP t)] at e1
        rw [itD_len] at e2
        have h1 := held_len t.isP t
        have h2 := held_len u.isPR u
        have e3 : ([It.s "."] : List It).length = 1 := rfl
        exact line_le (by omega)
      have s := s.trans s7
      refine k r3 _ _ (s.trans (Same.upd nr3)) ((Same.keep (N := N) s).free nr3) upd_same (Its.keep ?_ (Keep.new nr3))
      show Its C N H7 _ (itD ((held t.isP t ++ [It.s "."]) ++ held u.isPR u))
      rw [itD_app, itD_app]
      exact I6.app I7
    | star t =>
      obtain ⟨_, x, e, hp', hx, nN⟩ := at_one hp
      cases e
      obtain ⟨x, rfl⟩ := made_ref hx
      refine ⟨_, rfl, p, _, 0, _, rfl, rfl, SqT.of hp', rfl, _, rfl, rfl, _, rfl, iteF' (seqF (by decide +kernel)) ?_⟩
      refine ⟨_, rfl, rfl, _, rfl, iteF' (seqF (by decide +kernel)) ?_⟩
      refine ⟨_, rfl, rfl, _, rfl, iteF' (seqF (by decide +kernel)) ?_⟩
      refine ⟨_, rfl, rfl, _, rfl, iteF' (seqF (by decide +kernel)) ?_⟩
      refine ⟨_, rfl, p, _, 1, _, rfl, rfl, SqT.of hp', rfl, (by show 2 ≤ sizeLine; decide), fun b nb => ?_⟩
      have s1 := Same.upd (o := .tup [.str "plus", .str "row"]) nb
      have hb := upd_same (H := H) (a := b) (o := .tup [.str "plus", .str "row"])
      generalize upd H b (.tup [.str "plus", .str "row"]) = H1 at *
      refine ⟨N, x, b, _, t.isPR, t, rfl, hx.same s1, hb, rfl, inPR t, fun r zs H3 s3 nr hr3' I3 => ?_⟩
      have s := s1.trans s3
      refine ⟨(by show 1 ≤ sizeLine; decide), fun l nl => ?_⟩
      have s4 := Same.upd (o := .lst [.str "*"]) nl
      have hl := upd_same (H := H3) (a := l) (o := .lst [.str "*"])
      have I4 : Its C N (upd H3 l (.lst [.str "*"])) [.str "*"] (itD [.s "*"]) := Its.cons (.str _) Its.nil
      have I3 := I3.keep (Same.keep s4)
      have hr4 := s4 _ _ hr3'
      have s := s.trans s4
      generalize upd H3 l (.lst [.str "*"]) = H4 at *
      refine ⟨r, l, _, _, rfl, rfl, hr4, hl, few I3.1 I4.1 (hd _ _) (by decide), fun r2 nr2 => ?_⟩
      refine k r2 _ _ (s.trans (Same.upd nr2)) ((Same.keep (N := N) s).free nr2) upd_same (Its.keep ?_ (Keep.new nr2))
      show Its C N H4 _ (itD (held t.isPR t ++ [It.s "*"]))
      rw [itD_app]
      exact I3.app I4
theorem ok_ws {f fP C : Addr} {fd dP : FuncData} (F : Fun K "write_sum" "write_sum" sWs f fd) (T : TxtL mg) (TPstr : mg "str" = none) (cPi : CalN P w K mg base "_pieces" 4 ["term"] (spPi C) fP dP) : FnOk P w K mg base CX0 5 f fd ["term"] (spWs C) := by
  refine F.ok scWs (fun vs H Q E h => ?_) (fun cdv A outer s H vs Q E hr h => ?_)
  · obtain ⟨N, p, t, rfl, _⟩ := h
    rfl
  · obtain ⟨N, p, t, rfl, hp, al, okt, h59, k⟩ := h
    have hr4 : Room 4 _ := hr
    refine ⟨_, pss_cons (ps_set (i := 1) scWs.nd rfl (.inl rfl) (pe_lst pa_nil))
      (pss_cons (ps_set (i := 2) scWs.nd rfl (.inl rfl) (pe_lst (pa_cons (pv 0) pa_nil)))
      (pss_cons (ps_while PassesOwn.never (pt_truth (pv 2) (by intro _; rfl))
        (pss_cons (ps_set (i := 3) scWs.nd rfl (.inl rfl) (pe_bm0 PySem.F.plainAttrs_list PySem.F.slot_list_pop PySem.F.type_list_pop mt_pop (pv 2)))
        (pss_one (ps_if (pt_val (pe_callB call_isi (by rfl) T.isi (by decide +kernel) (pa_cons (pv 3) (pa_cons (pe_bltn (v := .ty "str") (by rfl) TPstr (by decide +kernel) rfl) pa_nil))))
          (pss_one (ps_expr (pe_bm PySem.F.plainAttrs_list PySem.F.slot_list_append PySem.F.type_list_append mt_append (pv 1) (pa_cons (pv 3) pa_nil))))
          (pss_one (ps_expr (pe_bm PySem.F.plainAttrs_list PySem.F.slot_list_extend PySem.F.type_list_extend mt_extend (pv 2) (pa_cons (pe_revL (pe_call cPi.G hr4 rfl cPi.m cPi.kp cPi.b .nil pass0 (pa_cons (pv 3) pa_nil))) pa_nil))))))))
      (pss_one (ps_ret (pe_bm PySem.F.plainAttrs_str PySem.F.slot_str_join PySem.F.type_str_join mt_join pe_str (pa_cons (pv 1) pa_nil)))))), ?_⟩
    refine ⟨(by show 0 ≤ sizeLine; decide), fun D1 n1 => ?_⟩
    have s1 := Same.upd (o := .lst []) n1
    have hD1 := upd_same (H := H) (a := D1) (o := .lst [])
    have hp1 := (hp.and n1).same s1
    have al1 : Alc (And1 N D1) (upd H D1 (.lst [])) := (al.keep (Same.keep (N := N) s1)).and (by rw [hD1]; intro z; cases z)
    generalize upd H D1 (.lst []) = H1 at *
    refine ⟨_, rfl, (by show 1 ≤ sizeLine; decide), fun D2 n2 => ?_⟩
    have s2 := Same.upd (o := .lst [.ref p]) n2
    have hD2 := upd_same (H := H1) (a := D2) (o := .lst [.ref p])
    have d12 : D1 ≠ D2 := fun e => by rw [← e, hD1] at n2; cases n2
    have hp2 := (hp1.and n2).same s2
    have al2 : Alc (And1 (And1 N D1) D2) (upd H1 D2 (.lst [.ref p])) := (al1.keep (Same.keep (N := And1 N D1) s2)).and (by rw [hD2]; intro z; cases z)
    have hD1 := s2 _ _ hD1
    have s12 := s1.trans s2
    have nD2 : H D2 = none := (Same.keep (N := N) s1).free n2
    generalize upd H1 D2 (.lst [.ref p]) = H2 at *
    have tl := t.text_len okt
    refine ⟨fun m σ G => ∃ (ys : List Str) (its : List It) (xs : List V) (o : Option V), σ = [some (.ref p), some (.ref D1), some (.ref D2), o] ∧ G D1 = some (.lst (ys.map V.str)) ∧ G D2 = some (.lst xs) ∧ Its C (And1 (And1 N D1) D2) G xs (itD its) ∧ (∀ i ∈ its, i.ok) ∧ (ys.map cl).flatten ++ cat its.reverse = cl t.text ∧ wts its = m ∧ ys.length + m ≤ 413 ∧ Same H G ∧ Alc (And1 (And1 N D1) D2) G,
      ⟨7 * t.sz, [], [.t t], _, none, rfl, hD1, hD2, Its.cons hp2 Its.nil, fun i hi => ?_, ?_, ?_, by show 0 + 7 * t.sz ≤ 413; omega, s12, al2⟩, ?_⟩
    · simp only [List.mem_cons, List.not_mem_nil, or_false] at hi
      subst hi
      exact okt
    · show [] ++ (cl t.text ++ []) = _
      rw [List.append_nil, List.nil_append]
    · show 7 * t.sz + 0 = _
      omega
    rintro m σ G ⟨ys, its, xs, o, rfl, hY, hX, hI, oki, hcat, hw, hn, sG, alG⟩
    refine ⟨_, rfl, _, .inl ⟨xs, SqL.of hX, rfl⟩, ?_⟩
    have lx : xs.length = its.length := by rw [hI.1, itD_len]
    by_cases he : its = []
    · subst he
      have : xs = [] := List.eq_nil_of_length_eq_zero lx
      subst this
      refine iteF' rfl ?_
      have e1 : (ys.map cl).flatten = cl t.text := by
        have : cat ([] : List It).reverse = [] := rfl
        rw [this, List.append_nil] at hcat
        exact hcat
      refine ⟨rfl, _, rfl, _, D1, ys, rfl, rfl, .inl (SqL.of hY), ?_, ?_⟩
      · rw [sum_cl, e1]
        show (cl t.text).length + ys.length * 0 ≤ 16777216
        rw [cl_len]
        omega
      · have e2 : Txt.join (Str.ofString "") ys = t.text := cl_inj (by rw [join_cl, e1])
        rw [e2]
        exact k G sG
    · obtain ⟨its, i, rfl⟩ := split_last its he
      have hx0 : xs ≠ [] := fun z => by rw [z, List.length_append] at lx; simp at lx
      obtain ⟨xs, x, rfl⟩ := split_last xs hx0
      have lx : xs.length = its.length := by rw [List.length_append, List.length_append] at lx; simpa using lx
      have hI0 : Its C (And1 (And1 N D1) D2) G xs (itD its) := by
        have := hI.take xs.length
        rw [List.take_left, itD_app] at this
        rw [show xs.length = (itD its).length by rw [itD_len, lx], List.take_left] at this
        exact this
      have hi : At C (And1 (And1 N D1) D2) G x i.dat := hI.2 xs.length x i.dat (by rw [List.getElem?_append_right (Nat.le_refl _), Nat.sub_self]; rfl) (by rw [itD_app, List.getElem?_append_right (by rw [itD_len]; omega), itD_len, lx, Nat.sub_self]; rfl)
      refine iteT' (by simp) ?_
      refine ⟨_, fun _ _ h => h, ?_⟩
      have hlast : (xs ++ [x])[(xs ++ [x]).length - 1]? = some x := by
        rw [List.length_append, List.length_singleton, Nat.add_sub_cancel, List.getElem?_append_right (Nat.le_refl _), Nat.sub_self]
        rfl
      refine ⟨_, rfl, .inl ⟨rfl, _, SqL.of hX⟩, D2, _, x, rfl, rfl, hX, hlast, ?_⟩
      rw [List.dropLast_concat]
      have kN : Keep (And1 (And1 N D1) D2) G (upd G D2 (.lst xs)) := Keep.upd (.inr rfl)
      have hX1 := upd_same (H := G) (a := D2) (o := .lst xs)
      have hY1 : upd G D2 (.lst xs) D1 = some (.lst (ys.map V.str)) := by rw [upd_ne d12]; exact hY
      have hI1 := hI0.keep kN
      have hi1 := hi.keep kN
      have sG1 : Same H (upd G D2 (.lst xs)) := fun b o hb => by rw [upd_ne (ne_of_none hb nD2)]; exact sG _ _ hb
      have al1 := alG.keep kN
      generalize upd G D2 (.lst xs) = G1 at *
      have hwt : wts its + i.wt = m := by rw [wts_app] at hw; exact hw
      have hcat1 : (ys.map cl).flatten ++ (cl i.text ++ cat its.reverse) = cl t.text := by
        rw [← hcat, List.reverse_append]
        rfl
      have hlt := len_wts its
      have oki0 : ∀ j ∈ its, It.ok j := fun j hj => oki j (List.mem_append_left _ hj)
      cases i with
      | s z =>
        cases hi1
        refine ⟨_, rfl, _, _, _, _, true, rfl, .ty _, .base (.str _), kit_ty (by decide +kernel), true, rfl, iteT ?_⟩
        refine ⟨_, rfl, .inl ⟨rfl, _, SqL.of hY1⟩, _, rfl, D1, _, _, rfl, rfl, hY1, ?_, ?_⟩
        · rw [List.length_map]; exact small1000 (by omega)
        have hw1 : wts its + 1 = m := hwt
        have kN2 : Keep (And1 (And1 N D1) D2) G1 (upd G1 D1 (.lst (ys.map V.str ++ [.str z]))) := Keep.upd (.inl (.inr rfl))
        refine ⟨wts its, by omega, ys ++ [z], its, xs, _, rfl, by rw [upd_same, List.map_append]; rfl, by rw [upd_ne (Ne.symm d12)]; exact hX1, hI1.keep kN2, oki0, ?_, rfl, by rw [List.length_append, List.length_singleton]; omega, fun b o hb => by rw [upd_ne (ne_of_none hb n1)]; exact sG1 _ _ hb, al1.keep kN2⟩
        rw [List.map_append, List.flatten_append, ← hcat1]
        show (ys.map cl).flatten ++ (cl z ++ []) ++ _ = (ys.map cl).flatten ++ (cl z ++ _)
        rw [List.append_nil, List.append_assoc]
      | t u =>
        obtain ⟨q, rfl⟩ := made_ref hi1
        obtain ⟨us, hq, _⟩ := made_head hi1
        refine ⟨_, rfl, _, _, _, _, false, rfl, .ty _, .base (.tup hq), kit_ty (by decide +kernel), false, rfl, iteF ?_⟩
        have oku : u.ok := oki (.t u) (List.mem_append_right _ (List.mem_singleton.mpr rfl))
        have hw1 : wts its + 7 * u.sz = m := hwt
        have hwp := wts_pieces u
        have hlp := len_wts (pieces u)
        refine ⟨_, rfl, .inl ⟨rfl, _, SqL.of hX1⟩, _, rfl, And1 (And1 N D1) D2, q, u, rfl, hi1, oku, fun r zs G2 s2 nr hr hZ => ?_⟩
        refine ⟨r, zs, rfl, SqL.of hr, fun r2 nr2 => ?_⟩
        have s3 : Same G1 (upd G2 r2 (.lst zs.reverse)) := s2.trans (Same.upd nr2)
        have hr2 := upd_same (H := G2) (a := r2) (o := .lst zs.reverse)
        have hZ3 := hZ.keep (Same.keep (N := And1 (And1 N D1) D2) (Same.upd (o := .lst zs.reverse) nr2))
        have hI3 := hI1.keep (Same.keep s3)
        have hX3 := s3 _ _ hX1
        have hY3 := s3 _ _ hY1
        have sG3 := sG1.trans s3
        have al3 := al1.keep (Same.keep (N := And1 (And1 N D1) D2) s3)
        generalize upd G2 r2 (.lst zs.reverse) = G3 at *
        have lz : zs.length = (pieces u).length := by rw [hZ.1, itD_len]
        refine ⟨D2, r2, xs, zs.reverse, rfl, rfl, hX3, hr2, line_le (by rw [List.length_reverse]; omega), ?_⟩
        have kN2 : Keep (And1 (And1 N D1) D2) G3 (upd G3 D2 (.lst (xs ++ zs.reverse))) := Keep.upd (.inr rfl)
        have hall : wts (its ++ (pieces u).reverse) = wts its + wts (pieces u) := by rw [wts_app, wts_rev]
        refine ⟨wts its + wts (pieces u), by omega, ys, its ++ (pieces u).reverse, _, _, rfl, by rw [upd_ne d12]; exact hY3, upd_same, ?_, fun j hj => ?_, ?_, hall, by omega, fun b o hb => by rw [upd_ne (ne_of_none hb nD2)]; exact sG3 _ _ hb, al3.keep kN2⟩
        · rw [itD_app, itD_rev]
          exact (hI3.app hZ3.rev).keep kN2
        · rcases List.mem_append.mp hj with hj | hj
          · exact oki0 j hj
          · exact ok_pieces u oku j (List.mem_reverse.mp hj)
        · rw [List.reverse_append, List.reverse_reverse, cat_app, cat_pieces, ← hcat1]
          rfl
end
end RX

set_option Elab.async false
set_option maxRecDepth 100000
namespace RX
open PySem L2
open RQ (Bt)
abbrev sSameT : Stmt := topS 28
theorem scSt : FnScope ["actual", "due", "waiting", "pair", "one", "two", "k"] ["actual", "due"] (defScope sSameT) := ⟨rfl, rfl, rfl, by decide +kernel, rfl, by decide +kernel, by decide +kernel⟩
def Tm.kids : Tm → List Tm
  | .num _ => []
  | .letter _ => []
  | .plus a b => [a, b]
  | .row a b => [a, b]
  | .star a => [a]
def Tm.deep : Tm → Bool
  | .num _ => false
  | .letter _ => false
  | _ => true
theorem deep_kind : ∀ {t : Tm}, t.deep = true → ¬ t.kind = "number" ∧ ¬ t.kind = "letter"
  | .plus _ _, _ => ⟨(by decide +kernel : ¬ ("plus" : Str) = "number"), (by decide +kernel : ¬ ("plus" : Str) = "letter")⟩
  | .row _ _, _ => ⟨(by decide +kernel : ¬ ("row" : Str) = "number"), (by decide +kernel : ¬ ("row" : Str) = "letter")⟩
  | .star _, _ => ⟨(by decide +kernel : ¬ ("star" : Str) = "number"), (by decide +kernel : ¬ ("star" : Str) = "letter")⟩
theorem deep_sz : ∀ {t : Tm}, t.deep = true → szs t.kids + 1 = t.sz ∧ t.kids.length ≤ 2
  | .plus a b, _ => ⟨by show a.sz + (b.sz + 0) + 1 = a.sz + b.sz + 1; omega, Nat.le_refl _⟩
  | .row a b, _ => ⟨by show a.sz + (b.sz + 0) + 1 = a.sz + b.sz + 1; omega, Nat.le_refl _⟩
  | .star a, _ => ⟨rfl, (by decide : 1 ≤ 2)⟩
theorem its_two {C : Addr} {N : Addr → Prop} {H : Hp} {x y : V} {d e : Dat} (h : At C N H x d) (k : At C N H y e) : Its C N H [x, y] [d, e] := Its.cons h (Its.cons k Its.nil)
theorem deep_made {C : Addr} {N : Addr → Prop} {H : Hp} {p : Addr} : ∀ {t : Tm}, t.deep = true → At C N H (.ref p) t.made → ∃ xs, H p = some (.tup (.str t.kind :: xs)) ∧ Its C N H xs (t.kids.map Tm.made)
  | .plus _ _, _, h => by obtain ⟨_, x, y, e, hp, hx, hy, _⟩ := at_two h; cases e; exact ⟨_, hp, its_two hx hy⟩
  | .row _ _, _, h => by obtain ⟨_, x, y, e, hp, hx, hy, _⟩ := at_two h; cases e; exact ⟨_, hp, its_two hx hy⟩
  | .star _, _, h => by obtain ⟨_, x, e, hp, hx, _⟩ := at_one h; cases e; exact ⟨_, hp, Its.cons hx Its.nil⟩
theorem deep_own {C : Addr} {N : Addr → Prop} {H : Hp} {p : Addr} : ∀ {t : Tm}, t.deep = true → At C N H (.ref p) t.own → ∃ xs, H p = some (.tup (.str t.kind :: xs)) ∧ Its C N H xs (t.kids.map Tm.own)
  | .plus _ _, _, h => by obtain ⟨_, x, y, e, hp, hx, hy, _⟩ := at_two h; cases e; exact ⟨_, hp, its_two hx hy⟩
  | .row _ _, _, h => by obtain ⟨_, x, y, e, hp, hx, hy, _⟩ := at_two h; cases e; exact ⟨_, hp, its_two hx hy⟩
  | .star _, _, h => by obtain ⟨_, x, e, hp, hx, _⟩ := at_one h; cases e; exact ⟨_, hp, Its.cons hx Its.nil⟩
/-- both are tuples of as many, with the kind first -/
theorem both_head {C : Addr} {N : Addr → Prop} {H : Hp} {p q : Addr} : ∀ {t : Tm}, At C N H (.ref p) t.made → At C N H (.ref q) t.own → ∃ xs ys, H p = some (.tup xs) ∧ H q = some (.tup ys) ∧ xs.length = ys.length ∧ xs[0]? = some (.str t.kind) ∧ ys[0]? = some (.str t.kind)
  | .num _, h, k => by obtain ⟨_, _, e, hp, _⟩ := at_one h; cases e; obtain ⟨_, _, e, hq, _⟩ := at_one k; cases e; exact ⟨_, _, hp, hq, rfl, rfl, rfl⟩
  | .letter _, h, k => by obtain ⟨_, _, e, hp, _⟩ := at_one h; cases e; obtain ⟨_, _, e, hq, _⟩ := at_one k; cases e; exact ⟨_, _, hp, hq, rfl, rfl, rfl⟩
  | .star _, h, k => by obtain ⟨_, _, e, hp, _⟩ := at_one h; cases e; obtain ⟨_, _, e, hq, _⟩ := at_one k; cases e; exact ⟨_, _, hp, hq, rfl, rfl, rfl⟩
  | .plus _ _, h, k => by obtain ⟨_, _, _, e, hp, _⟩ := at_two h; cases e; obtain ⟨_, _, _, e, hq, _⟩ := at_two k; cases e; exact ⟨_, _, hp, hq, rfl, rfl, rfl⟩
  | .row _ _, h, k => by obtain ⟨_, _, _, e, hp, _⟩ := at_two h; cases e; obtain ⟨_, _, _, e, hq, _⟩ := at_two k; cases e; exact ⟨_, _, hp, hq, rfl, rfl, rfl⟩
def pairD (t : Tm) : Dat := .tup [t.made, t.own]
theorem at_pairD {C : Addr} {N : Addr → Prop} {H : Hp} {v : V} {t : Tm} (h : At C N H v (pairD t)) : ∃ r p q, v = .ref r ∧ H r = some (.tup [.ref p, .ref q]) ∧ At C N H (.ref p) t.made ∧ At C N H (.ref q) t.own := by
  obtain ⟨p, rfl⟩ := At.tupV h
  obtain ⟨xs, hp, l, e⟩ := At.tupE h
  match xs, l with
  | [v0, v1], _ =>
    have h0 := e 0 v0 _ rfl rfl
    have h1 := e 1 v1 _ rfl rfl
    obtain ⟨x, rfl⟩ := made_ref h0
    obtain ⟨y, rfl⟩ := own_ref h1
    exact ⟨p, x, y, rfl, hp, h0, h1⟩
def spSt (C : Addr) : Sp := fun vs H Q _ => ∃ (N : Addr → Prop) (p q : Addr) (t : Tm), vs = [.ref p, .ref q] ∧ At C N H (.ref p) t.made ∧ At C N H (.ref q) t.own ∧ Alc N H ∧ t.sz ≤ 59 ∧ ∀ (H' : Hp), Same H H' → Q (.bl true) H'
section
variable {P : Program} {w : World} {K : PySem.W.Frag} {mg : Str → Option Value} {base : Heap}
theorem ok_st {f fS C : Addr} {fd dS : FuncData} (F : Fun K "_law_same_term" "_law_same_term" sSameT f fd) (T : TxtL mg) (TPstr : mg "str" = none) (TPtup : mg "tuple" = none) (cSa : CalN P w K mg base "_law_same" 2 ["actual", "due"] (spSame C) fS dS) : FnOk P w K mg base CX0 3 f fd ["actual", "due"] (spSt C) := by
  refine F.ok scSt (fun vs H Q E h => ?_) (fun cdv A outer s H vs Q E hr h => ?_)
  · obtain ⟨N, p, q, t, rfl, _⟩ := h
    rfl
  · obtain ⟨N, p, q, t, rfl, hp, hq, al, h59, k⟩ := h
    have hr2 : Room 2 _ := hr
    refine ⟨_, pss_cons (ps_set (i := 2) scSt.nd rfl (.inl rfl) (pe_lst (pa_cons (pe_tup (pa_cons (pv 0) (pa_cons (pv 1) pa_nil))) pa_nil)))
      (pss_cons (ps_while PassesOwn.never (pt_cmpR op_gt (pe_callB call_len_seq (by rfl) T.len PySem.boot_len (pa_cons (pv 2) pa_nil)) pe_int (nomark _))
        (pss_cons (ps_set (i := 3) scSt.nd rfl (.inl rfl) (pe_bm0 PySem.F.plainAttrs_list PySem.F.slot_list_pop PySem.F.type_list_pop mt_pop (pv 2)))
        (pss_cons (ps_set (i := 4) scSt.nd rfl (.inl rfl) (pe_ix ix_tup (pv 3) pe_int (fun _ _ => rfl)))
        (pss_cons (ps_set (i := 5) scSt.nd rfl (.inl rfl) (pe_ix ix_tup (pv 3) pe_int (fun _ _ => rfl)))
        (pss_cons (ps_if (PW.pt (pw_or (pt_not (pt_val (pe_callB call_isi (by rfl) T.isi (by decide +kernel) (pa_cons (pv 4) (pa_cons (pe_bltn (v := .ty "tuple") (by rfl) TPtup (by decide +kernel) rfl) pa_nil))))) (pw_or (pt_cmpR op_ne (pe_callB call_len_seq (by rfl) T.len PySem.boot_len (pa_cons (pv 4) pa_nil)) (pe_callB call_len_seq (by rfl) T.len PySem.boot_len (pa_cons (pv 5) pa_nil)) (nomark _)) (pw_or (pt_not (pt_val (pe_callB call_isi (by rfl) T.isi (by decide +kernel) (pa_cons (pe_ix ix_tup (pv 4) pe_int (fun _ _ => rfl)) (pa_cons (pe_bltn (v := .ty "str") (by rfl) TPstr (by decide +kernel) rfl) pa_nil))))) (pw_or1 (pt_cmpR op_ne (pe_ix ix_tup (pv 4) pe_int (fun _ _ => rfl)) (pe_ix ix_tup (pv 5) pe_int (fun _ _ => rfl)) (nomark _)))))))
          (pss_one ps_never)
          pss_nil)
        (pss_one (ps_if (pt_cmpR op_eq (pe_ix ix_tup (pv 5) pe_int (fun _ _ => rfl)) pe_str (nomark _))
          (pss_one (ps_if (pt_not (pt_val (pe_call cSa.G hr2 rfl cSa.m cSa.kp cSa.b .nil pass0 (pa_cons (pe_ix ix_tup (pv 4) pe_int (fun _ _ => rfl)) (pa_cons (pe_ix ix_tup (pv 5) pe_int (fun _ _ => rfl)) pa_nil)))))
            (pss_one ps_never)
            pss_nil))
          (pss_one (ps_if (pt_cmpR op_eq (pe_ix ix_tup (pv 5) pe_int (fun _ _ => rfl)) pe_str (nomark _))
            (pss_one (ps_if (PW.pt (pw_or (pt_not (pt_val (pe_callB call_isi (by rfl) T.isi (by decide +kernel) (pa_cons (pe_ix ix_tup (pv 4) pe_int (fun _ _ => rfl)) (pa_cons (pe_bltn (v := .ty "str") (by rfl) TPstr (by decide +kernel) rfl) pa_nil))))) (pw_or1 (pt_cmpR op_ne (pe_ix ix_tup (pv 4) pe_int (fun _ _ => rfl)) (pe_ix ix_tup (pv 5) pe_int (fun _ _ => rfl)) (nomark _)))))
              (pss_one ps_never)
              pss_nil))
            (pss_one (ps_for PassesOwn.never rfl (pi_range2 (by rfl) T.range (pa_cons pe_int (pa_cons (pe_callB call_len_seq (by rfl) T.len PySem.boot_len (pa_cons (pv 5) pa_nil)) pa_nil))) (pg_name (i := 6) scSt.nd rfl (.inl rfl))
              (pss_one (ps_expr (pe_bm PySem.F.plainAttrs_list PySem.F.slot_list_append PySem.F.type_list_append mt_append (pv 2) (pa_cons (pe_tup (pa_cons (pe_ix ix_tup (pv 4) (pv 6) (fun _ _ => rfl)) (pa_cons (pe_ix ix_tup (pv 5) (pv 6) (fun _ _ => rfl)) pa_nil))) pa_nil)))))))))))))))
      (pss_one (ps_ret pe_bl))), ?_⟩
    refine ⟨_, rfl, _, rfl, (by show 2 ≤ sizeLine; decide), fun l nl => ⟨(by show 1 ≤ sizeLine; decide), fun D nD => ?_⟩⟩
    have s1 := Same.upd (o := .tup [.ref p, .ref q]) nl
    have hl : At C N (upd H l (.tup [.ref p, .ref q])) (.ref l) (pairD t) := At.newT al nl rfl (itemsC hp (items1 hq))
    have al1 : Alc N (upd H l (.tup [.ref p, .ref q])) := al.keep (Same.keep (N := N) s1)
    generalize upd H l (.tup [.ref p, .ref q]) = H1 at *
    have s2 := Same.upd (o := .lst [.ref l]) nD
    have hD := upd_same (H := H1) (a := D) (o := .lst [.ref l])
    have hl2 := (hl.and nD).same s2
    have al2 : Alc (And1 N D) (upd H1 D (.lst [.ref l])) := (al1.keep (Same.keep (N := N) s2)).and (by rw [hD]; intro z; cases z)
    have nD0 : H D = none := (Same.keep (N := N) s1).free nD
    have s12 := s1.trans s2
    generalize upd H1 D (.lst [.ref l]) = H2 at *
    refine ⟨fun m σ G => ∃ (ts : List Tm) (xs : List V) (o3 o4 o5 o6 : Option V), σ = [some (.ref p), some (.ref q), some (.ref D), o3, o4, o5, o6] ∧ G D = some (.lst xs) ∧ Its C (And1 N D) G xs (ts.map pairD) ∧ szs ts = m ∧ m ≤ 59 ∧ Same H G ∧ Alc (And1 N D) G,
      ⟨t.sz, [t], _, none, none, none, none, rfl, hD, Its.cons hl2 Its.nil, rfl, h59, s12, al2⟩, ?_⟩
    rintro m σ G ⟨ts, xs, o3, o4, o5, o6, rfl, hX, hI, hm, h59', sG, alG⟩
    have lx : xs.length = ts.length := by rw [hI.1, List.length_map]
    refine ⟨_, rfl, D, xs, rfl, .inl (SqL.of hX), _, _, rfl, rfl, _, rfl, ?_⟩
    by_cases he : ts = []
    · subst he
      have : xs = [] := List.eq_nil_of_length_eq_zero lx
      subst this
      exact iteF' rfl (k G sG)
    · obtain ⟨ts, t, rfl⟩ := split_last ts he
      have hx0 : xs ≠ [] := fun z => by rw [z, List.length_append] at lx; simp at lx
      obtain ⟨xs, x, rfl⟩ := split_last xs hx0
      have lx : xs.length = ts.length := by rw [List.length_append, List.length_append] at lx; simpa using lx
      have hI0 : Its C (And1 N D) G xs (ts.map pairD) := by
        have := hI.take xs.length
        rw [List.take_left, List.map_append] at this
        rw [show xs.length = (ts.map pairD).length by rw [List.length_map, lx], List.take_left] at this
        exact this
      have hi : At C (And1 N D) G x (pairD t) := hI.2 xs.length x (pairD t) (by rw [List.getElem?_append_right (Nat.le_refl _), Nat.sub_self]; rfl) (by rw [List.map_append, List.getElem?_append_right (by rw [List.length_map]; omega), List.length_map, lx, Nat.sub_self]; rfl)
      refine iteT' (decide_eq_true (by rw [List.length_append, List.length_singleton]; omega)) ?_
      refine ⟨_, fun _ _ h => h, ?_⟩
      have hlast : (xs ++ [x])[(xs ++ [x]).length - 1]? = some x := by
        rw [List.length_append, List.length_singleton, Nat.add_sub_cancel, List.getElem?_append_right (Nat.le_refl _), Nat.sub_self]
        rfl
      refine ⟨_, rfl, .inl ⟨rfl, _, SqL.of hX⟩, D, _, x, rfl, rfl, hX, hlast, ?_⟩
      rw [List.dropLast_concat]
      have kN : Keep (And1 N D) G (upd G D (.lst xs)) := Keep.upd (.inr rfl)
      have hX1 := upd_same (H := G) (a := D) (o := .lst xs)
      have hI1 := hI0.keep kN
      have hi1 := hi.keep kN
      have sG1 : Same H (upd G D (.lst xs)) := fun b o hb => by rw [upd_ne (ne_of_none hb nD0)]; exact sG _ _ hb
      have al1 := alG.keep kN
      generalize upd G D (.lst xs) = G1 at *
      have hwt : szs ts + t.sz = m := by rw [szs_app] at hm; exact hm
      obtain ⟨r, p1, q1, rfl, hr', hP, hQ⟩ := at_pairD hi1
      refine ⟨_, rfl, r, _, 0, _, rfl, rfl, SqT.of hr', rfl, _, rfl, r, _, 1, _, rfl, rfl, SqT.of hr', rfl, ?_⟩
      obtain ⟨us, vs, hU, hV, luv, u0, v0⟩ := both_head hP hQ
      refine ⟨_, rfl, _, _, _, _, true, rfl, .ty _, .base (.tup hU), kit_ty (by decide +kernel), true, rfl, iteF ?_⟩
      refine ⟨_, rfl, p1, us, rfl, .inr (SqT.of hU), _, rfl, q1, vs, rfl, .inr (SqT.of hV), rfl, _, rfl, iteF' (by rw [luv, decide_eq_true rfl]; rfl) ?_⟩
      refine ⟨_, rfl, p1, us, 0, _, rfl, rfl, SqT.of hU, at0 u0, _, _, _, _, true, rfl, .ty _, .base (.str _), kit_ty (by decide +kernel), true, rfl, iteF ?_⟩
      refine ⟨_, rfl, p1, us, 0, _, rfl, rfl, SqT.of hU, at0 u0, _, rfl, q1, vs, 0, _, rfl, rfl, SqT.of hV, at0 v0, rfl, _, rfl, iteF' (by rw [decide_eq_true rfl]; rfl) ?_⟩
      have tp := t.sz_pos
      cases hd : t.deep with
      | true =>
        obtain ⟨nk1, nk2⟩ := deep_kind hd
        obtain ⟨dz, dl⟩ := deep_sz hd
        refine ⟨_, rfl, q1, vs, 0, _, rfl, rfl, SqT.of hV, at0 v0, rfl, _, rfl, iteF' (seqF nk1) ?_⟩
        refine ⟨_, rfl, q1, vs, 0, _, rfl, rfl, SqT.of hV, at0 v0, rfl, _, rfl, iteF' (seqF nk2) ?_⟩
        obtain ⟨ms, hM, hIM⟩ := deep_made hd hP
        obtain ⟨os, hO, hIO⟩ := deep_own hd hQ
        have lo : os.length = t.kids.length := by rw [hIO.1, List.length_map]
        have lm : ms.length = t.kids.length := by rw [hIM.1, List.length_map]
        have en : (((V.str t.kind :: os).length : Nat) : Int) - 1 = (t.kids.length : Int) := by rw [List.length_cons, lo]; omega
        refine ⟨_, rfl, q1, _, rfl, .inr (SqT.of hO), 1, _, rfl, ⟨by decide, by decide, by omega, by omega⟩, ?_⟩
        rw [show ((((V.str t.kind :: os).length : Nat) : Int) - 1).toNat = t.kids.length by omega]
        refine for_range (lo := 1) (n := t.kids.length) (fun i σ G => ∃ (zs : List V) (o6 : Option V), σ = [some (.ref p), some (.ref q), some (.ref D), some (.ref r), some (.ref p1), some (.ref q1), o6] ∧ G D = some (.lst zs) ∧ Its C (And1 N D) G zs ((ts ++ t.kids.take i).map pairD) ∧ Keep (And1 N D) G1 G ∧ Same H G)
          ⟨xs, _, rfl, hX1, by rw [List.take_zero, List.append_nil]; exact hI1, Keep.refl, sG1⟩ ?_ ?_
        · rintro i σ G hi ⟨zs, o6, rfl, hZ, hIZ, kG, sG2⟩
          have hp1 : ¬ And1 N D p1 := hP.notin
          have hq1 : ¬ And1 N D q1 := hQ.notin
          have hM2 := kG.k _ _ hM hp1
          have hO2 := kG.k _ _ hO hq1
          have ht : t.kids[i]? = some (t.kids[i]'hi) := List.getElem?_eq_getElem hi
          obtain ⟨x, hx, hx'⟩ := (hIM.keep kG).get ht
          obtain ⟨y, hy, hy'⟩ := (hIO.keep kG).get ht
          have ei : (1 : Int) + (i : Int) = ((i + 1 : Nat) : Int) := by omega
          have lz : zs.length ≤ 200 := by
            have e := hIZ.1
            have : ts.length ≤ szs ts := by
              cases h0 : ts[0]? with
              | none => rw [List.getElem?_eq_none_iff] at h0; omega
              | some z => have := szs_head h0; have := z.sz_pos; omega
            rw [List.length_map, List.length_append, List.length_take] at e
            omega
          have alZ : Alc (And1 N D) G := al1.keep kG
          refine ⟨_, rfl, .inl ⟨rfl, _, SqL.of hZ⟩, _, rfl, _, rfl, p1, _, _, _, rfl, rfl, SqT.of hM2, atN ei hx, _, rfl, _, rfl, q1, _, _, _, rfl, rfl, SqT.of hO2, atN ei hy, (by show 2 ≤ sizeLine; decide), fun l nl => ?_⟩
          have s3 := Same.upd (o := .tup [x, y]) nl
          have hZ3 := s3 _ _ hZ
          have hnew : At C (And1 N D) (upd G l (.tup [x, y])) (.ref l) (pairD (t.kids[i]'hi)) := At.newT alZ nl rfl (itemsC hx' (items1 hy'))
          have hIZ3 := hIZ.keep (Same.keep s3)
          have sG3 := sG2.trans s3
          have k3 := kG.trans (Same.keep (N := And1 N D) s3)
          generalize upd G l (.tup [x, y]) = G3 at *
          refine ⟨D, zs, _, rfl, rfl, hZ3, small1000 (by omega), ?_⟩
          have kN2 : Keep (And1 N D) G3 (upd G3 D (.lst (zs ++ [.ref l]))) := Keep.upd (.inr rfl)
          refine ⟨_, _, rfl, upd_same, ?_, k3.trans kN2, fun b o hb => by rw [upd_ne (ne_of_none hb nD0)]; exact sG3 _ _ hb⟩
          rw [List.take_succ, ht]
          show Its C (And1 N D) _ _ ((ts ++ (t.kids.take i ++ [t.kids[i]'hi])).map pairD)
          rw [← List.append_assoc, List.map_append]
          exact (hIZ3.app (Its.cons hnew Its.nil)).keep kN2
        · rintro σ G ⟨zs, o6, rfl, hZ, hIZ, kG, sG2⟩
          rw [List.take_of_length_le (Nat.le_refl _)] at hIZ
          exact ⟨szs ts + szs t.kids, by omega, ts ++ t.kids, zs, _, _, _, _, rfl, hZ, hIZ, szs_app _ _, by omega, sG2, al1.keep kG⟩
      | false =>
        cases t with
        | num c =>
          obtain ⟨_, x, e, hp', hx, _⟩ := at_one hP
          cases e
          obtain ⟨_, y, e, hq', hy, _⟩ := at_one hQ
          cases e
          obtain ⟨x, rfl, hR⟩ := hx.ratV
          obtain ⟨y, rfl, hy, _⟩ := hy.pair
          refine ⟨_, rfl, q1, vs, 0, _, rfl, rfl, SqT.of hV, at0 v0, rfl, _, rfl, iteT' (seqT rfl) ?_⟩
          refine ⟨_, rfl, p1, _, 1, _, rfl, rfl, SqT.of hp', rfl, _, rfl, q1, _, 1, _, rfl, rfl, SqT.of hq', rfl, x, y, _, _, rfl, hR, hy, true, rfl, iteF ?_⟩
          exact ⟨szs ts, by omega, ts, xs, _, _, _, _, rfl, hX1, hI1, rfl, by omega, sG1, al1⟩
        | letter c =>
          obtain ⟨_, x, e, hp', hx, _⟩ := at_one hP
          cases e
          obtain ⟨_, y, e, hq', hy, _⟩ := at_one hQ
          cases e
          have := hx.strV
          subst this
          have := hy.strV
          subst this
          refine ⟨_, rfl, q1, vs, 0, _, rfl, rfl, SqT.of hV, at0 v0, rfl, _, rfl, iteF' (seqF (by decide +kernel : ¬ ("letter" : Str) = "number")) ?_⟩
          refine ⟨_, rfl, q1, vs, 0, _, rfl, rfl, SqT.of hV, at0 v0, rfl, _, rfl, iteT' (seqT rfl) ?_⟩
          refine ⟨_, rfl, p1, _, 1, _, rfl, rfl, SqT.of hp', rfl, _, _, _, _, true, rfl, .ty _, .base (.str _), kit_ty (by decide +kernel), true, rfl, iteF ?_⟩
          refine ⟨_, rfl, p1, _, 1, _, rfl, rfl, SqT.of hp', rfl, _, rfl, q1, _, 1, _, rfl, rfl, SqT.of hq', rfl, rfl, _, rfl, iteF' (by rw [decide_eq_true rfl]; rfl) ?_⟩
          exact ⟨szs ts, by omega, ts, xs, _, _, _, _, rfl, hX1, hI1, rfl, by omega, sG1, al1⟩
        | plus a b => cases hd
        | row a b => cases hd
        | star a => cases hd
end
end RX

set_option Elab.async false
set_option maxRecDepth 100000
namespace RX
open PySem L2
open RQ (Bt)
abbrev sLaw : Stmt := topS 29
theorem scL : FnScope ["script", "feed", "held", "k", "term", "turn", "one", "said"] ["script"] (defScope sLaw) := ⟨rfl, rfl, rfl, by decide +kernel, rfl, by decide +kernel, by decide +kernel⟩
def spLaw (K : PySem.W.Frag) : Sp := fun vs H Q _ => ∃ (a : Addr) (ns : List Int), vs = [.ref a] ∧ SqL K H a (ns.map V.int) ∧ ns.length ≤ 63 ∧ ∀ H', Q (.bl true) H'
/-- a term, what was made of it, its text -/
def triD (t : Tm) : Dat := .lst [t.own, t.made, .str t.text]
theorem at_triD {C : Addr} {N : Addr → Prop} {H : Hp} {v : V} {t : Tm} (h : At C N H v (triD t)) : ∃ r p q, v = .ref r ∧ H r = some (.lst [.ref p, .ref q, .str t.text]) ∧ At C N H (.ref p) t.own ∧ At C N H (.ref q) t.made := by
  obtain ⟨p, rfl⟩ := At.lstV h
  obtain ⟨xs, hp, l, e⟩ := At.lstE h
  match xs, l with
  | [v0, v1, v2], _ =>
    have h0 := e 0 v0 _ rfl rfl
    have h1 := e 1 v1 _ rfl rfl
    have h2 := (e 2 v2 _ rfl rfl).strV
    subst h2
    obtain ⟨x, rfl⟩ := own_ref h0
    obtain ⟨y, rfl⟩ := made_ref h1
    exact ⟨p, x, y, rfl, hp, h0, h1⟩
section
variable {P : Program} {w : World} {K : PySem.W.Frag} {mg : Str → Option Value} {base : Heap}
theorem ok_law {f fFe fTe fMd fWr fWs fSt C : Addr} {fd dFe dTe dMd dWr dWs dSt : FuncData} (F : Fun K "law" "law" sLaw f fd) (T : TxtL mg) (TPstr : mg "str" = none)
    (cFe : CalN P w K mg base "_law_feed" 1 ["script"] (spFeed K) fFe dFe) (cTe : CalN P w K mg base "_law_term" 5 ["feed"] (spTe C) fTe dTe) (cMd : CalN P w K mg base "_law_made" 62 ["term"] (spMd C 59) fMd dMd)
    (cWr : CalN P w K mg base "_law_write" 120 ["term"] (spWr C 59) fWr dWr) (cWs : CalN P w K mg base "write_sum" 5 ["term"] (spWs C) fWs dWs) (cSt : CalN P w K mg base "_law_same_term" 3 ["actual", "due"] (spSt C) fSt dSt) :
    FnOk P w K mg base CX0 121 f fd ["script"] (spLaw K) := by
  refine F.ok scL (fun vs H Q E h => ?_) (fun cdv A outer s H vs Q E hr h => ?_)
  · obtain ⟨a, ns, rfl, _⟩ := h
    rfl
  · obtain ⟨sc, ns, rfl, hS, hl, k⟩ := h
    have hr1 : Room 1 _ := hr.mono (by decide)
    have hr3 : Room 3 _ := hr.mono (by decide)
    have hr5 : Room 5 _ := hr.mono (by decide)
    have hrM : Room 62 _ := hr.mono (by decide)
    have hrW : Room 120 _ := hr
    refine ⟨_, pss_cons (ps_set (i := 1) scL.nd rfl (.inl rfl) (pe_call cFe.G hr1 rfl cFe.m cFe.kp cFe.b .nil pass0 (pa_cons (pv 0) pa_nil)))
      (pss_cons (ps_set (i := 2) scL.nd rfl (.inl rfl) (pe_lst pa_nil))
      (pss_cons (ps_for PassesOwn.never rfl (pi_range1 (by rfl) T.range (pa_cons pe_int pa_nil)) (pg_name (i := 3) scL.nd rfl (.inl rfl))
        (pss_cons (ps_set (i := 4) scL.nd rfl (.inl rfl) (pe_call cTe.G hr5 rfl cTe.m cTe.kp cTe.b .nil pass0 (pa_cons (pv 1) pa_nil)))
        (pss_one (ps_expr (pe_bm PySem.F.plainAttrs_list PySem.F.slot_list_append PySem.F.type_list_append mt_append (pv 2) (pa_cons (pe_lst (pa_cons (pv 4) (pa_cons (pe_call cMd.G hrM rfl cMd.m cMd.kp cMd.b .nil pass0 (pa_cons (pv 4) pa_nil)) (pa_cons (pe_call cWr.G hrW rfl cWr.m cWr.kp cWr.b .nil pass0 (pa_cons (pv 4) pa_nil)) pa_nil)))) pa_nil))))))
      (pss_cons (ps_for PassesOwn.never rfl (pi_range1 (by rfl) T.range (pa_cons pe_int pa_nil)) (pg_name (i := 5) scL.nd rfl (.inl rfl))
        (pss_one (ps_for PassesOwn.never rfl (pi_list (pv 2)) (pg_name (i := 6) scL.nd rfl (.inl rfl))
          (pss_cons (ps_set (i := 7) scL.nd rfl (.inl rfl) (pe_call cWs.G hr5 rfl cWs.m cWs.kp cWs.b .nil pass0 (pa_cons (pe_ix ix_list (pv 6) pe_int (fun _ _ => rfl)) pa_nil)))
          (pss_cons (ps_if (PW.pt (pw_or (pt_not (pt_val (pe_callB call_isi (by rfl) T.isi (by decide +kernel) (pa_cons (pv 7) (pa_cons (pe_bltn (v := .ty "str") (by rfl) TPstr (by decide +kernel) rfl) pa_nil))))) (pw_or1 (pt_cmpR op_ne (pv 7) (pe_ix ix_list (pv 6) pe_int (fun _ _ => rfl)) (nomark _)))))
            (pss_one ps_never)
            pss_nil)
          (pss_one (ps_if (pt_cmpR op_ne (pe_call cWs.G hr5 rfl cWs.m cWs.kp cWs.b .nil pass0 (pa_cons (pe_call cMd.G hrM rfl cMd.m cMd.kp cMd.b .nil pass0 (pa_cons (pe_ix ix_list (pv 6) pe_int (fun _ _ => rfl)) pa_nil)) pa_nil)) (pe_ix ix_list (pv 6) pe_int (fun _ _ => rfl)) (nomark _))
            (pss_one ps_never)
            pss_nil)))))))
      (pss_one (ps_ret (pe_and (pe_call cSt.G hr3 rfl cSt.m cSt.kp cSt.b .nil pass0 (pa_cons (pe_ix ix_list (pe_ix ix_list (pv 2) pe_int (fun _ _ => rfl)) pe_int (fun _ _ => rfl)) (pa_cons (pe_ix ix_list (pe_ix ix_list (pv 2) pe_int (fun _ _ => rfl)) pe_int (fun _ _ => rfl)) pa_nil))) (pe_one (pe_call cSt.G hr3 rfl cSt.m cSt.kp cSt.b .nil pass0 (pa_cons (pe_ix ix_list (pe_ix ix_list (pv 2) pe_int (fun _ _ => rfl)) pe_int (fun _ _ => rfl)) (pa_cons (pe_ix ix_list (pe_ix ix_list (pv 2) pe_int (fun _ _ => rfl)) pe_int (fun _ _ => rfl)) pa_nil)))))))))), ?_⟩
    refine ⟨_, rfl, sc, ns, rfl, hS, hl, fun a cl H1 s1 nfe ncl f1 => ?_⟩
    refine ⟨(by show 0 ≤ sizeLine; decide), fun D nD => ?_⟩
    obtain ⟨Da, Dc⟩ := f1.ne_new nD
    have al0 : Alc (K1 a) H1 := fun b hb => by rw [show b = a from hb]; exact f1.there
    refine ⟨2, rfl, by decide, by decide, for_range (n := 2) (fun i σ G => ∃ (ts : List Tm) (o3 o4 : Option V), σ = [some (.ref sc), some (.ref a), some (.ref D), o3, o4, none, none, none] ∧ FeedAt G a cl ∧ Bld C (K1 a) (K1 a) H1 D (ts.map triD) G ∧ ts.length = i ∧ ∀ t ∈ ts, t.ok ∧ t.sz ≤ 59)
      ⟨[], none, none, rfl, f1.other Da Dc, bld0 nD, rfl, fun t h => nomatch h⟩ ?_ ?_⟩
    · rintro i σ G hi ⟨ts, o3, o4, rfl, f2, bd, lt, oks⟩
      refine ⟨_, rfl, And1 (K1 a) D, a, cl, rfl, f2, bd.alc al0, .inl rfl, fun r t G1 f3 b3 ht okt st => ?_⟩
      have bd1 := bd.keep (keep_feed b3 f3) (fun _ z => z) Da
      obtain ⟨xs, hD, hI⟩ := bd1.its
      have al1 := bd1.alc al0
      refine ⟨_, rfl, .inl ⟨rfl, _, SqL.of hD⟩, _, rfl, _, rfl, And1 (K1 a) D, r, t, rfl, ht, al1, okt, st, fun r2 G2 s2 hm => ?_⟩
      have ht2 := ht.same s2
      refine ⟨_, rfl, And1 (K1 a) D, r, t, rfl, ht2, okt, st, st, fun G3 s3 => ⟨(by show 3 ≤ sizeLine; decide), fun h nh => ?_⟩⟩
      have s4 := Same.upd (o := .lst [.ref r, .ref r2, .str t.text]) nh
      have s := s2.trans (s3.trans s4)
      have al3 : Alc (And1 (K1 a) D) G3 := (al1.keep (Same.keep (N := And1 (K1 a) D) s2)).keep (Same.keep (N := And1 (K1 a) D) s3)
      have hnew : At C (And1 (K1 a) D) (upd G3 h (.lst [.ref r, .ref r2, .str t.text])) (.ref h) (triD t) := At.newL al3 nh rfl (itemsC (ht2.same s3) (itemsC (hm.same s3) (items1 (.str _))))
      have bd4 := bd1.keep (Same.keep (N := K1 a) s) (fun _ z => z) Da
      have hD4 := s _ _ hD
      have hI4 := hI.keep (Same.keep (N := And1 (K1 a) D) s)
      have f4 := f3.same s
      generalize upd G3 h (.lst [.ref r, .ref r2, .str t.text]) = G4 at *
      have lx : xs.length = ts.length := by rw [hI.1, List.length_map]
      refine ⟨D, xs, _, rfl, rfl, hD4, small1000 (by omega), ?_⟩
      refine ⟨ts ++ [t], _, _, rfl, f4.other Da Dc, ?_, by rw [List.length_append, lt]; rfl, fun u hu => ?_⟩
      · rw [List.map_append]
        exact bd4.put nD (hI4.app (Its.cons hnew Its.nil))
      · rcases List.mem_append.mp hu with hu | hu
        · exact oks u hu
        · simp only [List.mem_cons, List.not_mem_nil, or_false] at hu
          rw [hu]; exact ⟨okt, st⟩
    · rintro σ G ⟨ts, o3, o4, rfl, f2, bd, lt, oks⟩
      obtain ⟨xs, hD, hI⟩ := bd.its
      have hI : Its C (K1 a) G xs (ts.map triD) := hI.less fun b z => .inl z
      have al1 : Alc (K1 a) G := al0.keep bd.k
      have lx : xs.length = ts.length := by rw [hI.1, List.length_map]
      refine ⟨2, rfl, by decide, by decide, for_range (n := 2) (fun i σ G' => ∃ (o5 o6 o7 : Option V), σ = [some (.ref sc), some (.ref a), some (.ref D), o3, o4, o5, o6, o7] ∧ Same G G') ⟨_, _, _, rfl, Same.refl _⟩ ?_ ?_⟩
      · rintro i σ G1 hi ⟨o5, o6, o7, rfl, sG⟩
        refine ⟨_, rfl, D, rfl, ⟨_, SqL.of (sG _ _ hD)⟩, for_it (walk_list (K := K) (a := D) (xs := xs)) (fun j σ G' => ∃ (o6 o7 : Option V), σ = [some (.ref sc), some (.ref a), some (.ref D), o3, o4, some (.int (0 + (i : Int))), o6, o7] ∧ Same G G') ⟨_, _, rfl, sG⟩ (fun j σ G' _ h => by obtain ⟨_, _, _, s⟩ := h; exact SqL.of (s _ _ hD)) ?_ ?_⟩
        · rintro j x σ G2 G3 hj ⟨o6, o7, rfl, sG⟩ ⟨rfl, hx⟩
          have ht : ts[j]? = some (ts[j]'(by omega)) := List.getElem?_eq_getElem _
          obtain ⟨okt, st⟩ := oks _ (List.getElem_mem (show j < ts.length by omega))
          obtain ⟨x', hx', hX⟩ := hI.get ht
          rw [hx] at hx'
          cases hx'
          generalize ts[j]'(by omega) = t at *
          obtain ⟨r, p, q, rfl, hr', hP, hQ⟩ := at_triD (hX.same sG)
          have alG := al1.keep (Same.keep (N := K1 a) sG)
          refine ⟨_, rfl, r, _, 1, _, rfl, rfl, SqL.of hr', rfl, K1 a, q, t, rfl, hQ, alG, okt, st, fun G4 s4 => ?_⟩
          have hr4 := s4 _ _ hr'
          refine ⟨_, rfl, _, _, _, _, true, rfl, .ty _, .base (.str _), kit_ty (by decide +kernel), true, rfl, iteF ?_⟩
          refine ⟨_, rfl, _, rfl, r, _, 2, _, rfl, rfl, SqL.of hr4, rfl, rfl, _, rfl, iteF' (by rw [decide_eq_true rfl]; rfl) ?_⟩
          refine ⟨_, rfl, r, _, 0, _, rfl, rfl, SqL.of hr4, rfl, K1 a, p, t, rfl, hP.same s4, alG.keep (Same.keep (N := K1 a) s4), okt, st, fun q2 G5 s5 hm => ?_⟩
          have s45 := s4.trans s5
          refine ⟨K1 a, q2, t, rfl, hm, alG.keep (Same.keep (N := K1 a) s45), okt, st, fun G6 s6 => ?_⟩
          have s46 := s45.trans s6
          refine ⟨_, rfl, r, _, 2, _, rfl, rfl, SqL.of (s46 _ _ hr'), rfl, rfl, _, rfl, iteF' (by rw [decide_eq_true rfl]; rfl) ?_⟩
          exact ⟨_, _, rfl, sG.trans s46⟩
        · rintro σ G2 ⟨o6, o7, rfl, sG⟩
          exact ⟨_, _, _, rfl, sG⟩
      · rintro σ G1 ⟨o5, o6, o7, rfl, sG⟩
        have h0 : ts[0]? = some (ts[0]'(by omega)) := List.getElem?_eq_getElem _
        have h1 : ts[1]? = some (ts[1]'(by omega)) := List.getElem?_eq_getElem _
        obtain ⟨ok0, st0⟩ := oks _ (List.getElem_mem (show 0 < ts.length by omega))
        obtain ⟨ok1, st1⟩ := oks _ (List.getElem_mem (show 1 < ts.length by omega))
        obtain ⟨x0, hx0, hX0⟩ := hI.get h0
        obtain ⟨x1, hx1, hX1⟩ := hI.get h1
        obtain ⟨r0, p0, q0, rfl, hr0, hP0, hQ0⟩ := at_triD (hX0.same sG)
        obtain ⟨r1, p1, q1, rfl, hr1', hP1, hQ1⟩ := at_triD (hX1.same sG)
        have hD1 := sG _ _ hD
        have alG := al1.keep (Same.keep (N := K1 a) sG)
        refine ⟨_, rfl, D, _, 0, _, rfl, rfl, SqL.of hD1, at0 hx0, r0, _, 1, _, rfl, rfl, SqL.of hr0, rfl, _, rfl, D, _, 0, _, rfl, rfl, SqL.of hD1, at0 hx0, r0, _, 0, _, rfl, rfl, SqL.of hr0, rfl, K1 a, q0, p0, _, rfl, hQ0, hP0, alG, st0, fun G2 s2 => ⟨true, rfl, iteT ?_⟩⟩
        have hD2 := s2 _ _ hD1
        have hr12 := s2 _ _ hr1'
        exact ⟨_, rfl, D, _, 1, _, rfl, rfl, SqL.of hD2, atN rfl hx1, r1, _, 1, _, rfl, rfl, SqL.of hr12, rfl, _, rfl, D, _, 1, _, rfl, rfl, SqL.of hD2, atN rfl hx1, r1, _, 0, _, rfl, rfl, SqL.of hr12, rfl, K1 a, q1, p1, _, rfl, hQ1.same s2, hP1.same s2, alG.keep (Same.keep (N := K1 a) s2), st1, fun G3 s3 => k G3⟩
end
end RX

set_option Elab.async false
set_option maxRecDepth 100000
namespace RX
open PySem L2

set_option maxHeartbeats 0 in
theorem all_mk {l : PySem.W.OpenLaw} {w : World} {K : PySem.W.Frag} {h : Heap} {mg : Str → Option Value} {fa C fFe fDr fGr fPa fIs fSa fLf fJo fBu fCh fWi fTe fMd fTx fPt fWr fSt fHe fPi fWs fL fI fWh fRx qWh TT : Addr} {rWh : List Value} (X : K.In h) (G : h.Ns mainGlobals mg) (hfa : mg "law" = some (.ref fa))
    {odFe odDr odGr odPa odIs odSa odLf odJo odBu odCh odWi odTe odMd odTx odPt odWr odSt odHe odPi odWs odL odI odWh odRx odT anFe anDr anGr anPa anIs anSa anLf anJo anBu anCh anWi anTe anMd anTx anPt anWr anSt anHe anPi anWs anL anI anWh anRx : Option Addr} {slFe slDr slGr slPa slIs slSa slLf slJo slBu slCh slWi slTe slMd slTx slPt slWr slSt slHe slPi slWs slL slI slWh slRx slT : Array (Option Value)} {ocFe kVFe dcFe pmFe cdFe ctFe ocDr kVDr dcDr pmDr cdDr ctDr ocGr kVGr dcGr pmGr cdGr ctGr ocPa kVPa dcPa pmPa cdPa ctPa ocIs kVIs dcIs pmIs cdIs ctIs ocSa kVSa dcSa pmSa cdSa ctSa ocLf kVLf dcLf pmLf cdLf ctLf ocJo kVJo dcJo pmJo cdJo ctJo ocBu kVBu dcBu pmBu cdBu ctBu ocCh kVCh dcCh pmCh cdCh ctCh ocWi kVWi dcWi pmWi cdWi ctWi ocTe kVTe dcTe pmTe cdTe ctTe ocMd kVMd dcMd pmMd cdMd ctMd ocTx kVTx dcTx pmTx cdTx ctTx ocPt kVPt dcPt pmPt cdPt ctPt ocWr kVWr dcWr pmWr cdWr ctWr ocSt kVSt dcSt pmSt cdSt ctSt ocHe kVHe dcHe pmHe cdHe ctHe ocPi kVPi dcPi pmPi cdPi ctPi ocWs kVWs dcWs pmWs cdWs ctWs ocL kVL dcL pmL cdL ctL ocI kVI dcI pmI cdI ctI ocWh kVWh dcWh pmWh cdWh ctWh ocRx kVRx dcRx pmRx cdRx ctRx ocT : Value} {tkT : Tok} {nT0 : Nat} 
    (aG : PySem.W.nsIn K mainGlobals "gcd" = some (some (.builtin "math.gcd")))
    (aC : PySem.W.nsIn K mainGlobals "Ratio" = some (some (.ref C)))
    (pgC : PySem.W.plainGet K C Str.empty = true)
    (hdC : PySem.W.hasDictIn K C = true)
    (poC : PySem.W.plainOver K C = true)
    (saC : PySem.W.findIn K (.ref C) "__setattr__" = some (some (.builtin "object.__setattr__")))
    (nCtop : PySem.W.findIn K (.ref C) "top" = some none)
    (nCbottom : PySem.W.findIn K (.ref C) "bottom" = some none)
    (mkC : PySem.W.makesIn K C = true)
    (kcC : PySem.W.keepIn K (.ref C) = true)
    (xaC : PySem.W.findIn K (.ref C) "__class__" = some (some (.builtin "object.__class__")))
    (xmC : PySem.W.mroIn K C (.type "object") = some true)
    (aI : PySem.W.findIn K (.ref C) "__init__" = some (some (.ref fI)))
    (iI : PySem.W.isFn K (.ref fI) = true)
    (lI : K.lookup fI = some ⟨ocI, odI, .func (PySem.W.fnOf "__init__" "Ratio.__init__" (defArgs sInit) (defBody sInit) (defScope sInit) (.ref TT) kVI dcI pmI anI cdI ctI), slI⟩)
    (cI : PySem.W.codeIn K cdI "Ratio.__init__" = true)
    (kI : PySem.W.keepIn K (.ref fI) = true)
    (lT : K.lookup TT = some ⟨ocT, odT, .seq #[.int 1 tkT] nT0, slT⟩)
    (aWh : PySem.W.findIn K (.ref C) "is_whole" = some (some (.ref qWh)))
    (g1Wh : PySem.W.specialIn K (.ref qWh) "__get__" = some (some (.builtin "property.__get__")))
    (g2Wh : PySem.W.takesIn K (.ref qWh) = some true)
    (g3Wh : PySem.W.recIn K qWh "property" = some (.ref fWh :: rWh))
    (lWh : K.lookup fWh = some ⟨ocWh, odWh, .func (PySem.W.fnOf "is_whole" "Ratio.is_whole" (defArgs sWhole) (defBody sWhole) (defScope sWhole) .none kVWh dcWh pmWh anWh cdWh ctWh), slWh⟩)
    (cWh : PySem.W.codeIn K cdWh "Ratio.is_whole" = true)
    (kWh : PySem.W.keepIn K (.ref fWh) = true)
    (aRx : PySem.W.findIn K (.ref C) "text" = some (some (.ref fRx)))
    (iRx : PySem.W.isFn K (.ref fRx) = true)
    (lRx : K.lookup fRx = some ⟨ocRx, odRx, .func (PySem.W.fnOf "text" "Ratio.text" (defArgs sRText) (defBody sRText) (defScope sRText) .none kVRx dcRx pmRx anRx cdRx ctRx), slRx⟩)
    (cRx : PySem.W.codeIn K cdRx "Ratio.text" = true)
    (kRx : PySem.W.keepIn K (.ref fRx) = true)
    (xn : PySem.W.specialIn K (.builtin "object.__class__") "__get__" = some (some (.builtin "getset_descriptor.__get__")))
    (xt : PySem.W.takesIn K (.builtin "object.__class__") = some true)
    (aFe : PySem.W.nsIn K mainGlobals "_law_feed" = some (some (.ref fFe)))
    (lFe : K.lookup fFe = some ⟨ocFe, odFe, .func (PySem.W.fnOf "_law_feed" "_law_feed" (defArgs sFeed) (defBody sFeed) (defScope sFeed) .none kVFe dcFe pmFe anFe cdFe ctFe), slFe⟩)
    (cFe : PySem.W.codeIn K cdFe "_law_feed" = true)
    (kFe : PySem.W.keepIn K (.ref fFe) = true)
    (aDr : PySem.W.nsIn K mainGlobals "_law_draw" = some (some (.ref fDr)))
    (lDr : K.lookup fDr = some ⟨ocDr, odDr, .func (PySem.W.fnOf "_law_draw" "_law_draw" (defArgs sDraw) (defBody sDraw) (defScope sDraw) .none kVDr dcDr pmDr anDr cdDr ctDr), slDr⟩)
    (cDr : PySem.W.codeIn K cdDr "_law_draw" = true)
    (kDr : PySem.W.keepIn K (.ref fDr) = true)
    (aGr : PySem.W.nsIn K mainGlobals "_law_great" = some (some (.ref fGr)))
    (lGr : K.lookup fGr = some ⟨ocGr, odGr, .func (PySem.W.fnOf "_law_great" "_law_great" (defArgs sGreat) (defBody sGreat) (defScope sGreat) .none kVGr dcGr pmGr anGr cdGr ctGr), slGr⟩)
    (cGr : PySem.W.codeIn K cdGr "_law_great" = true)
    (kGr : PySem.W.keepIn K (.ref fGr) = true)
    (aPa : PySem.W.nsIn K mainGlobals "_law_pair" = some (some (.ref fPa)))
    (lPa : K.lookup fPa = some ⟨ocPa, odPa, .func (PySem.W.fnOf "_law_pair" "_law_pair" (defArgs sPair) (defBody sPair) (defScope sPair) .none kVPa dcPa pmPa anPa cdPa ctPa), slPa⟩)
    (cPa : PySem.W.codeIn K cdPa "_law_pair" = true)
    (kPa : PySem.W.keepIn K (.ref fPa) = true)
    (aIs : PySem.W.nsIn K mainGlobals "_law_is_integer" = some (some (.ref fIs)))
    (lIs : K.lookup fIs = some ⟨ocIs, odIs, .func (PySem.W.fnOf "_law_is_integer" "_law_is_integer" (defArgs sIsInt) (defBody sIsInt) (defScope sIsInt) .none kVIs dcIs pmIs anIs cdIs ctIs), slIs⟩)
    (cIs : PySem.W.codeIn K cdIs "_law_is_integer" = true)
    (kIs : PySem.W.keepIn K (.ref fIs) = true)
    (aSa : PySem.W.nsIn K mainGlobals "_law_same" = some (some (.ref fSa)))
    (lSa : K.lookup fSa = some ⟨ocSa, odSa, .func (PySem.W.fnOf "_law_same" "_law_same" (defArgs sSame) (defBody sSame) (defScope sSame) .none kVSa dcSa pmSa anSa cdSa ctSa), slSa⟩)
    (cSa : PySem.W.codeIn K cdSa "_law_same" = true)
    (kSa : PySem.W.keepIn K (.ref fSa) = true)
    (aLf : PySem.W.nsIn K mainGlobals "_law_leaf" = some (some (.ref fLf)))
    (lLf : K.lookup fLf = some ⟨ocLf, odLf, .func (PySem.W.fnOf "_law_leaf" "_law_leaf" (defArgs sLeaf) (defBody sLeaf) (defScope sLeaf) .none kVLf dcLf pmLf anLf cdLf ctLf), slLf⟩)
    (cLf : PySem.W.codeIn K cdLf "_law_leaf" = true)
    (kLf : PySem.W.keepIn K (.ref fLf) = true)
    (aJo : PySem.W.nsIn K mainGlobals "_law_joined" = some (some (.ref fJo)))
    (lJo : K.lookup fJo = some ⟨ocJo, odJo, .func (PySem.W.fnOf "_law_joined" "_law_joined" (defArgs sJoin) (defBody sJoin) (defScope sJoin) .none kVJo dcJo pmJo anJo cdJo ctJo), slJo⟩)
    (cJo : PySem.W.codeIn K cdJo "_law_joined" = true)
    (kJo : PySem.W.keepIn K (.ref fJo) = true)
    (aBu : PySem.W.nsIn K mainGlobals "_law_bush" = some (some (.ref fBu)))
    (lBu : K.lookup fBu = some ⟨ocBu, odBu, .func (PySem.W.fnOf "_law_bush" "_law_bush" (defArgs sBush) (defBody sBush) (defScope sBush) .none kVBu dcBu pmBu anBu cdBu ctBu), slBu⟩)
    (cBu : PySem.W.codeIn K cdBu "_law_bush" = true)
    (kBu : PySem.W.keepIn K (.ref fBu) = true)
    (aCh : PySem.W.nsIn K mainGlobals "_law_chain" = some (some (.ref fCh)))
    (lCh : K.lookup fCh = some ⟨ocCh, odCh, .func (PySem.W.fnOf "_law_chain" "_law_chain" (defArgs sChain) (defBody sChain) (defScope sChain) .none kVCh dcCh pmCh anCh cdCh ctCh), slCh⟩)
    (cCh : PySem.W.codeIn K cdCh "_law_chain" = true)
    (kCh : PySem.W.keepIn K (.ref fCh) = true)
    (aWi : PySem.W.nsIn K mainGlobals "_law_wide_term" = some (some (.ref fWi)))
    (lWi : K.lookup fWi = some ⟨ocWi, odWi, .func (PySem.W.fnOf "_law_wide_term" "_law_wide_term" (defArgs sWide) (defBody sWide) (defScope sWide) .none kVWi dcWi pmWi anWi cdWi ctWi), slWi⟩)
    (cWi : PySem.W.codeIn K cdWi "_law_wide_term" = true)
    (kWi : PySem.W.keepIn K (.ref fWi) = true)
    (aTe : PySem.W.nsIn K mainGlobals "_law_term" = some (some (.ref fTe)))
    (lTe : K.lookup fTe = some ⟨ocTe, odTe, .func (PySem.W.fnOf "_law_term" "_law_term" (defArgs sTerm) (defBody sTerm) (defScope sTerm) .none kVTe dcTe pmTe anTe cdTe ctTe), slTe⟩)
    (cTe : PySem.W.codeIn K cdTe "_law_term" = true)
    (kTe : PySem.W.keepIn K (.ref fTe) = true)
    (aMd : PySem.W.nsIn K mainGlobals "_law_made" = some (some (.ref fMd)))
    (lMd : K.lookup fMd = some ⟨ocMd, odMd, .func (PySem.W.fnOf "_law_made" "_law_made" (defArgs sMade) (defBody sMade) (defScope sMade) .none kVMd dcMd pmMd anMd cdMd ctMd), slMd⟩)
    (cMd : PySem.W.codeIn K cdMd "_law_made" = true)
    (kMd : PySem.W.keepIn K (.ref fMd) = true)
    (aTx : PySem.W.nsIn K mainGlobals "_law_text" = some (some (.ref fTx)))
    (lTx : K.lookup fTx = some ⟨ocTx, odTx, .func (PySem.W.fnOf "_law_text" "_law_text" (defArgs sLText) (defBody sLText) (defScope sLText) .none kVTx dcTx pmTx anTx cdTx ctTx), slTx⟩)
    (cTx : PySem.W.codeIn K cdTx "_law_text" = true)
    (kTx : PySem.W.keepIn K (.ref fTx) = true)
    (aPt : PySem.W.nsIn K mainGlobals "_law_part" = some (some (.ref fPt)))
    (lPt : K.lookup fPt = some ⟨ocPt, odPt, .func (PySem.W.fnOf "_law_part" "_law_part" (defArgs sPart) (defBody sPart) (defScope sPart) .none kVPt dcPt pmPt anPt cdPt ctPt), slPt⟩)
    (cPt : PySem.W.codeIn K cdPt "_law_part" = true)
    (kPt : PySem.W.keepIn K (.ref fPt) = true)
    (aWr : PySem.W.nsIn K mainGlobals "_law_write" = some (some (.ref fWr)))
    (lWr : K.lookup fWr = some ⟨ocWr, odWr, .func (PySem.W.fnOf "_law_write" "_law_write" (defArgs sWrite) (defBody sWrite) (defScope sWrite) .none kVWr dcWr pmWr anWr cdWr ctWr), slWr⟩)
    (cWr : PySem.W.codeIn K cdWr "_law_write" = true)
    (kWr : PySem.W.keepIn K (.ref fWr) = true)
    (aSt : PySem.W.nsIn K mainGlobals "_law_same_term" = some (some (.ref fSt)))
    (lSt : K.lookup fSt = some ⟨ocSt, odSt, .func (PySem.W.fnOf "_law_same_term" "_law_same_term" (defArgs sSameT) (defBody sSameT) (defScope sSameT) .none kVSt dcSt pmSt anSt cdSt ctSt), slSt⟩)
    (cSt : PySem.W.codeIn K cdSt "_law_same_term" = true)
    (kSt : PySem.W.keepIn K (.ref fSt) = true)
    (aHe : PySem.W.nsIn K mainGlobals "_held" = some (some (.ref fHe)))
    (lHe : K.lookup fHe = some ⟨ocHe, odHe, .func (PySem.W.fnOf "_held" "_held" (defArgs sHe) (defBody sHe) (defScope sHe) .none kVHe dcHe pmHe anHe cdHe ctHe), slHe⟩)
    (cHe : PySem.W.codeIn K cdHe "_held" = true)
    (kHe : PySem.W.keepIn K (.ref fHe) = true)
    (aPi : PySem.W.nsIn K mainGlobals "_pieces" = some (some (.ref fPi)))
    (lPi : K.lookup fPi = some ⟨ocPi, odPi, .func (PySem.W.fnOf "_pieces" "_pieces" (defArgs sPi) (defBody sPi) (defScope sPi) .none kVPi dcPi pmPi anPi cdPi ctPi), slPi⟩)
    (cPi : PySem.W.codeIn K cdPi "_pieces" = true)
    (kPi : PySem.W.keepIn K (.ref fPi) = true)
    (aWs : PySem.W.nsIn K mainGlobals "write_sum" = some (some (.ref fWs)))
    (lWs : K.lookup fWs = some ⟨ocWs, odWs, .func (PySem.W.fnOf "write_sum" "write_sum" (defArgs sWs) (defBody sWs) (defScope sWs) .none kVWs dcWs pmWs anWs cdWs ctWs), slWs⟩)
    (cWs : PySem.W.codeIn K cdWs "write_sum" = true)
    (kWs : PySem.W.keepIn K (.ref fWs) = true)
    (aL : PySem.W.nsIn K mainGlobals "law" = some (some (.ref fL)))
    (lL : K.lookup fL = some ⟨ocL, odL, .func (PySem.W.fnOf "law" "law" (defArgs sLaw) (defBody sLaw) (defScope sLaw) .none kVL dcL pmL anL cdL ctL), slL⟩)
    (cL : PySem.W.codeIn K cdL "law" = true)
    (kL : PySem.W.keepIn K (.ref fL) = true)
    (z_abs : PySem.W.nsIn K mainGlobals "abs" = some none)
    (z_len : PySem.W.nsIn K mainGlobals "len" = some none)
    (z_int : PySem.W.nsIn K mainGlobals "int" = some none)
    (z_max : PySem.W.nsIn K mainGlobals "max" = some none)
    (z_range : PySem.W.nsIn K mainGlobals "range" = some none)
    (z_isinstance : PySem.W.nsIn K mainGlobals "isinstance" = some none)
    (z_bool : PySem.W.nsIn K mainGlobals "bool" = some none)
    (z_str : PySem.W.nsIn K mainGlobals "str" = some none)
    (z_tuple : PySem.W.nsIn K mainGlobals "tuple" = some none)
    : ∃ fd : FuncData, (∀ (s : Shared) (v : Value), BindsTo s fd ⟨[v], []⟩ [("script", v)]) ∧ ∀ base : Heap, K.In base → base.Ns mainGlobals mg → FnOk l.prog w K mg base CX0 121 fa fd ["script"] (spLaw K) := by
  have e := hfa.symm.trans (PySem.W.mg_of X G aL)
  cases e
  have T : TxtL mg := ⟨PySem.W.mg_none_of X G z_abs, PySem.W.mg_none_of X G z_len, PySem.W.mg_none_of X G z_int, PySem.W.mg_none_of X G z_max, PySem.W.mg_none_of X G z_range, PySem.W.mg_none_of X G z_isinstance, PySem.W.mg_none_of X G z_bool⟩
  have xeC : PySem.W.kitOne K (.ref C) (.ref C) = some true := by
    unfold PySem.W.kitOne
    rw [if_pos (beq_self_eq_true _)]
  have icC : C8.InsC K C := ⟨⟨pgC, hdC, poC, saC⟩, xaC, xn, xt, xmC, xeC⟩
  obtain ⟨fdI, FI⟩ : ∃ fd, FunD K "__init__" "Ratio.__init__" (defArgs sInit) (defBody sInit) (defScope sInit) [.int 1] [] fI fd := ⟨_, ⟨ocI, odI, .ref TT, kVI, dcI, pmI, anI, cdI, ctI, slI, rfl, lI, cI, .inr ⟨(fun z => nomatch z), TT, _, [.int 1 tkT], nT0, rfl, lT, rfl, .cons ⟨tkT, rfl⟩ .nil⟩, .inl rfl⟩, kI⟩
  have bI : Binds K fdI ["self", "top", "bottom"] [] := by
    obtain ⟨ds, v, b⟩ := FI.binds1 (ps := ["self", "top", "bottom"]) 3 1 (fun z => nomatch z) rfl fun T kV doc pm an cdv ct us its hu hi => match us, its, hu, hi with | [_, _, _], [_], _, _ => ⟨_, rfl, rfl⟩
    cases v
    exact b
  have bI1 : ∃ ds, Vals [V.int 1] ds ∧ Binds K fdI ["self", "top", "bottom"] ds := FI.binds1 (ps := ["self", "top", "bottom"]) 2 0 (fun z => nomatch z) rfl fun T kV doc pm an cdv ct us its hu hi => match us, its, hu, hi with | [_, _], [_], _, _ => ⟨_, rfl, rfl⟩
  have FWh := fun_mk (st := sWhole) lWh cWh kWh
  have bWh := FWh.binds (ps := ["self"]) fun _ _ _ _ _ _ us hl => match us, hl with | [_], _ => rfl
  have FRx := fun_mk (st := sRText) lRx cRx kRx
  have bRx := FRx.binds (ps := ["self"]) fun _ _ _ _ _ _ us hl => match us, hl with | [_], _ => rfl
  have FFe := fun_mk (st := sFeed) lFe cFe kFe
  have bFe := FFe.binds (ps := ["script"]) fun _ _ _ _ _ _ us hl => match us, hl with | [_], _ => rfl
  have mFe := PySem.W.mg_of X G aFe
  have FDr := fun_mk (st := sDraw) lDr cDr kDr
  have bDr := FDr.binds (ps := ["feed", "limit"]) fun _ _ _ _ _ _ us hl => match us, hl with | [_, _], _ => rfl
  have mDr := PySem.W.mg_of X G aDr
  have FGr := fun_mk (st := sGreat) lGr cGr kGr
  have bGr := FGr.binds (ps := ["feed", "parts"]) fun _ _ _ _ _ _ us hl => match us, hl with | [_, _], _ => rfl
  have mGr := PySem.W.mg_of X G aGr
  have FPa := fun_mk (st := sPair) lPa cPa kPa
  have bPa := FPa.binds (ps := ["above", "below"]) fun _ _ _ _ _ _ us hl => match us, hl with | [_, _], _ => rfl
  have mPa := PySem.W.mg_of X G aPa
  have FIs := fun_mk (st := sIsInt) lIs cIs kIs
  have bIs := FIs.binds (ps := ["actual"]) fun _ _ _ _ _ _ us hl => match us, hl with | [_], _ => rfl
  have mIs := PySem.W.mg_of X G aIs
  have FSa := fun_mk (st := sSame) lSa cSa kSa
  have bSa := FSa.binds (ps := ["actual", "due"]) fun _ _ _ _ _ _ us hl => match us, hl with | [_, _], _ => rfl
  have mSa := PySem.W.mg_of X G aSa
  have FLf := fun_mk (st := sLeaf) lLf cLf kLf
  have bLf := FLf.binds (ps := ["feed", "wide"]) fun _ _ _ _ _ _ us hl => match us, hl with | [_, _], _ => rfl
  have mLf := PySem.W.mg_of X G aLf
  have FJo := fun_mk (st := sJoin) lJo cJo kJo
  have bJo := FJo.binds (ps := ["feed", "one", "two"]) fun _ _ _ _ _ _ us hl => match us, hl with | [_, _, _], _ => rfl
  have mJo := PySem.W.mg_of X G aJo
  have FBu := fun_mk (st := sBush) lBu cBu kBu
  have bBu := FBu.binds (ps := ["feed", "wide"]) fun _ _ _ _ _ _ us hl => match us, hl with | [_, _], _ => rfl
  have mBu := PySem.W.mg_of X G aBu
  have FCh := fun_mk (st := sChain) lCh cCh kCh
  have bCh := FCh.binds (ps := ["feed", "wide", "many"]) fun _ _ _ _ _ _ us hl => match us, hl with | [_, _, _], _ => rfl
  have mCh := PySem.W.mg_of X G aCh
  have FWi := fun_mk (st := sWide) lWi cWi kWi
  have bWi := FWi.binds (ps := ["feed", "wide"]) fun _ _ _ _ _ _ us hl => match us, hl with | [_, _], _ => rfl
  have mWi := PySem.W.mg_of X G aWi
  have FTe := fun_mk (st := sTerm) lTe cTe kTe
  have bTe := FTe.binds (ps := ["feed"]) fun _ _ _ _ _ _ us hl => match us, hl with | [_], _ => rfl
  have mTe := PySem.W.mg_of X G aTe
  have FMd := fun_mk (st := sMade) lMd cMd kMd
  have bMd := FMd.binds (ps := ["term"]) fun _ _ _ _ _ _ us hl => match us, hl with | [_], _ => rfl
  have mMd := PySem.W.mg_of X G aMd
  have FTx := fun_mk (st := sLText) lTx cTx kTx
  have bTx := FTx.binds (ps := ["one"]) fun _ _ _ _ _ _ us hl => match us, hl with | [_], _ => rfl
  have mTx := PySem.W.mg_of X G aTx
  have FPt := fun_mk (st := sPart) lPt cPt kPt
  have bPt := FPt.binds (ps := ["term", "barred"]) fun _ _ _ _ _ _ us hl => match us, hl with | [_, _], _ => rfl
  have mPt := PySem.W.mg_of X G aPt
  have FWr := fun_mk (st := sWrite) lWr cWr kWr
  have bWr := FWr.binds (ps := ["term"]) fun _ _ _ _ _ _ us hl => match us, hl with | [_], _ => rfl
  have mWr := PySem.W.mg_of X G aWr
  have FSt := fun_mk (st := sSameT) lSt cSt kSt
  have bSt := FSt.binds (ps := ["actual", "due"]) fun _ _ _ _ _ _ us hl => match us, hl with | [_, _], _ => rfl
  have mSt := PySem.W.mg_of X G aSt
  have FHe := fun_mk (st := sHe) lHe cHe kHe
  have bHe := FHe.binds (ps := ["term", "kinds"]) fun _ _ _ _ _ _ us hl => match us, hl with | [_, _], _ => rfl
  have mHe := PySem.W.mg_of X G aHe
  have FPi := fun_mk (st := sPi) lPi cPi kPi
  have bPi := FPi.binds (ps := ["term"]) fun _ _ _ _ _ _ us hl => match us, hl with | [_], _ => rfl
  have mPi := PySem.W.mg_of X G aPi
  have FWs := fun_mk (st := sWs) lWs cWs kWs
  have bWs := FWs.binds (ps := ["term"]) fun _ _ _ _ _ _ us hl => match us, hl with | [_], _ => rfl
  have mWs := PySem.W.mg_of X G aWs
  refine ⟨PySem.W.fnOf "law" "law" (defArgs sLaw) (defBody sLaw) (defScope sLaw) .none kVL dcL pmL anL cdL ctL, fun s v => .of_eq rfl, fun base _ _ => ?_⟩
  have TR : TxtR K mg C := ⟨⟨pgC, hdC, poC, saC⟩, nCtop, nCbottom, PySem.W.mg_of X G aC, PySem.W.mg_of X G aG⟩
  have M : Mk K C fI := ⟨mkC, aI, iI, kcC⟩
  have GI := ok_init (P := l.prog) (w := w) (base := base) FI TR
  have TPstr := PySem.W.mg_none_of X G z_str
  have TPtup := PySem.W.mg_none_of X G z_tuple
  have pW' : PropOf K C "is_whole" qWh fWh := ⟨aWh, g1Wh, g2Wh, ⟨_, g3Wh⟩⟩
  have GW := ok_whole (P := l.prog) (w := w) (base := base) FWh TR
  have cRx : MetN l.prog w K mg base C "text" 3 ["self"] (spRText C) fRx _ := ⟨ok_rtext FRx TR pW' GW bWh, ⟨aRx, iRx, kRx⟩, bRx⟩
  have cFe : CalN l.prog w K mg base "_law_feed" 1 ["script"] (spFeed K) fFe _ := ⟨ok_feed FFe T, mFe, kFe, bFe⟩
  have cDr : CalN l.prog w K mg base "_law_draw" 1 ["feed", "limit"] spDraw fDr _ := ⟨ok_draw FDr T, mDr, kDr, bDr⟩
  have cGr : CalN l.prog w K mg base "_law_great" 2 ["feed", "parts"] spGreat fGr _ := ⟨ok_great FGr T cDr.G mDr kDr bDr, mGr, kGr, bGr⟩
  have cPa : CalN l.prog w K mg base "_law_pair" 1 ["above", "below"] spPair fPa _ := ⟨ok_pair FPa T, mPa, kPa, bPa⟩
  have cIs : CalN l.prog w K mg base "_law_is_integer" 1 ["actual"] spIsInt fIs _ := ⟨ok_isInt FIs T, mIs, kIs, bIs⟩
  have cSa : CalN l.prog w K mg base "_law_same" 2 ["actual", "due"] (spSame C) fSa _ := ⟨ok_same FSa T TR icC cIs.G mIs kIs bIs, mSa, kSa, bSa⟩
  have cLf : CalN l.prog w K mg base "_law_leaf" 3 ["feed", "wide"] (spLf C) fLf _ := ⟨ok_lf FLf T cDr cGr cPa, mLf, kLf, bLf⟩
  have cJo : CalN l.prog w K mg base "_law_joined" 2 ["feed", "one", "two"] (spJo C) fJo _ := ⟨ok_jo FJo cDr, mJo, kJo, bJo⟩
  have cBu : CalN l.prog w K mg base "_law_bush" 4 ["feed", "wide"] (spBu C) fBu _ := ⟨ok_bu FBu T cDr cLf cJo, mBu, kBu, bBu⟩
  have cCh : CalN l.prog w K mg base "_law_chain" 4 ["feed", "wide", "many"] (spCh C) fCh _ := ⟨ok_ch FCh T cDr cLf cJo, mCh, kCh, bCh⟩
  have cWi : CalN l.prog w K mg base "_law_wide_term" 4 ["feed", "wide"] (spBu C) fWi _ := ⟨ok_wi FWi T cLf cJo, mWi, kWi, bWi⟩
  have cTe : CalN l.prog w K mg base "_law_term" 5 ["feed"] (spTe C) fTe _ := ⟨ok_te FTe T cDr cCh cWi cBu, mTe, kTe, bTe⟩
  have cMd : CalN l.prog w K mg base "_law_made" 62 ["term"] (spMd C 59) fMd _ := ⟨ok_md FMd TR M GI bI mMd kMd bMd 59, mMd, kMd, bMd⟩
  have cTx : CalN l.prog w K mg base "_law_text" 1 ["one"] spLText fTx _ := ⟨ok_ltext FTx TPstr, mTx, kTx, bTx⟩
  have cWr : CalN l.prog w K mg base "_law_write" 120 ["term"] (spWr C 59) fWr _ := ⟨ok_wr FWr FPt cTx mWr kWr bWr mPt kPt bPt 59, mWr, kWr, bWr⟩
  have cSt : CalN l.prog w K mg base "_law_same_term" 3 ["actual", "due"] (spSt C) fSt _ := ⟨ok_st FSt T TPstr TPtup cSa, mSt, kSt, bSt⟩
  have cHe : CalN l.prog w K mg base "_held" 1 ["term", "kinds"] (spHe C) fHe _ := ⟨ok_he FHe, mHe, kHe, bHe⟩
  have cPi : CalN l.prog w K mg base "_pieces" 4 ["term"] (spPi C) fPi _ := ⟨ok_pi FPi TR cRx cHe, mPi, kPi, bPi⟩
  have cWs : CalN l.prog w K mg base "write_sum" 5 ["term"] (spWs C) fWs _ := ⟨ok_ws FWs T TPstr cPi, mWs, kWs, bWs⟩
  exact ok_law (fun_mk (st := sLaw) lL cL kL) T TPstr cFe cTe cMd cWr cWs cSt
theorem walk {l : PySem.W.OpenLaw} {q : Program} {loose : List Str} {XP : (Str → Option Value) → Heap → Prop} {YP : World → Heap → Prop} {d : DefRec} {K : Params → PySem.W.Frag} (hn : l.most = some 63) (hdf : d.params.defaults = [])
    (hY : ∀ (w : World) (h : Heap), YP w h → (K w.params).In h)
    (F : ∀ (w : World) (mg : Str → Option Value) (fa : Addr) (h : Heap), (K w.params).In h → h.Ns mainGlobals mg → mg d.name = some (.ref fa) →
      ∃ fd : FuncData, (∀ (s : Shared) (u : Value), BindsTo s fd ⟨[u], []⟩ [("script", u)]) ∧ ∀ base : Heap, (K w.params).In base → base.Ns mainGlobals mg → FnOk l.prog w (K w.params) mg base CX0 121 fa fd ["script"] (spLaw (K w.params))) :
    PySem.W.WalkO q loose XP YP l.row.toRowW d [] (fun f vs => PySem.call f vs) :=
  L2.walk_of (n := 63) (k := 121) (x := "script") (CX := fun _ => CX0) (sp := fun w => spLaw (K w.params)) hn (by decide) hdf ⟨rfl, by decide, by decide⟩ hY F (fun _ _ a ns hl _ hS => ⟨a, ns, rfl, hS, hl, fun _ => rfl⟩) fun _ _ _ _ _ z => z
end RX

set_option Elab.async false

open PySem PySem.W PyProof.Rows in
set_option maxRecDepth 100000 in
set_option maxHeartbeats 0 in
theorem PySem.Challenge.cw_wordworth_k26_write_sum_holds : PySem.Challenge.rw_wordworth_k26_write_sum.Holds := by
  w_on; o_law; k_head; (case hw => w_witness2)
  k_fill
  refine RX.walk (l := PySem.Challenge.rw_wordworth_k26_write_sum) rfl rfl (fun w h Y => PySem.W.kIn_of Y) ?F
  case F =>
    intro w mg fa h KX G hmg
    refine' RX.all_mk KX G hmg ?aG ?aC ?pgC ?hdC ?poC ?saC ?nCtop ?nCbottom ?mkC ?kcC ?xaC ?xmC ?aI ?iI ?lI ?cI ?kI ?lT ?aWh ?g1Wh ?g2Wh ?g3Wh ?lWh ?cWh ?kWh ?aRx ?iRx ?lRx ?cRx ?kRx ?xn ?xt ?aFe ?lFe ?cFe ?kFe ?aDr ?lDr ?cDr ?kDr ?aGr ?lGr ?cGr ?kGr ?aPa ?lPa ?cPa ?kPa ?aIs ?lIs ?cIs ?kIs ?aSa ?lSa ?cSa ?kSa ?aLf ?lLf ?cLf ?kLf ?aJo ?lJo ?cJo ?kJo ?aBu ?lBu ?cBu ?kBu ?aCh ?lCh ?cCh ?kCh ?aWi ?lWi ?cWi ?kWi ?aTe ?lTe ?cTe ?kTe ?aMd ?lMd ?cMd ?kMd ?aTx ?lTx ?cTx ?kTx ?aPt ?lPt ?cPt ?kPt ?aWr ?lWr ?cWr ?kWr ?aSt ?lSt ?cSt ?kSt ?aHe ?lHe ?cHe ?kHe ?aPi ?lPi ?cPi ?kPi ?aWs ?lWs ?cWs ?kWs ?aL ?lL ?cL ?kL ?z_abs ?z_len ?z_int ?z_max ?z_range ?z_isinstance ?z_bool ?z_str ?z_tuple
    (case aG => k_is)
    (case aC => k_is)
    (case pgC => k_is)
    (case hdC => k_is)
    (case poC => k_is)
    (case saC => k_is)
    (case nCtop => k_is)
    (case nCbottom => k_is)
    (case mkC => k_is)
    (case kcC => k_is)
    (case xaC => k_is)
    (case xmC => k_is)
    (case aI => k_is)
    (case iI => k_is)
    (case lI => k_is)
    (case cI => k_is)
    (case kI => k_is)
    (case lT => k_is)
    (case aWh => k_is)
    (case g1Wh => k_is)
    (case g2Wh => k_is)
    (case g3Wh => k_is)
    (case lWh => k_is)
    (case cWh => k_is)
    (case kWh => k_is)
    (case aRx => k_is)
    (case iRx => k_is)
    (case lRx => k_is)
    (case cRx => k_is)
    (case kRx => k_is)
    (case xn => k_is)
    (case xt => k_is)
    (case aFe => k_is)
    (case lFe => k_is)
    (case cFe => k_is)
    (case kFe => k_is)
    (case aDr => k_is)
    (case lDr => k_is)
    (case cDr => k_is)
    (case kDr => k_is)
    (case aGr => k_is)
    (case lGr => k_is)
    (case cGr => k_is)
    (case kGr => k_is)
    (case aPa => k_is)
    (case lPa => k_is)
    (case cPa => k_is)
    (case kPa => k_is)
    (case aIs => k_is)
    (case lIs => k_is)
    (case cIs => k_is)
    (case kIs => k_is)
    (case aSa => k_is)
    (case lSa => k_is)
    (case cSa => k_is)
    (case kSa => k_is)
    (case aLf => k_is)
    (case lLf => k_is)
    (case cLf => k_is)
    (case kLf => k_is)
    (case aJo => k_is)
    (case lJo => k_is)
    (case cJo => k_is)
    (case kJo => k_is)
    (case aBu => k_is)
    (case lBu => k_is)
    (case cBu => k_is)
    (case kBu => k_is)
    (case aCh => k_is)
    (case lCh => k_is)
    (case cCh => k_is)
    (case kCh => k_is)
    (case aWi => k_is)
    (case lWi => k_is)
    (case cWi => k_is)
    (case kWi => k_is)
    (case aTe => k_is)
    (case lTe => k_is)
    (case cTe => k_is)
    (case kTe => k_is)
    (case aMd => k_is)
    (case lMd => k_is)
    (case cMd => k_is)
    (case kMd => k_is)
    (case aTx => k_is)
    (case lTx => k_is)
    (case cTx => k_is)
    (case kTx => k_is)
    (case aPt => k_is)
    (case lPt => k_is)
    (case cPt => k_is)
    (case kPt => k_is)
    (case aWr => k_is)
    (case lWr => k_is)
    (case cWr => k_is)
    (case kWr => k_is)
    (case aSt => k_is)
    (case lSt => k_is)
    (case cSt => k_is)
    (case kSt => k_is)
    (case aHe => k_is)
    (case lHe => k_is)
    (case cHe => k_is)
    (case kHe => k_is)
    (case aPi => k_is)
    (case lPi => k_is)
    (case cPi => k_is)
    (case kPi => k_is)
    (case aWs => k_is)
    (case lWs => k_is)
    (case cWs => k_is)
    (case kWs => k_is)
    (case aL => k_is)
    (case lL => k_is)
    (case cL => k_is)
    (case kL => k_is)
    (case z_abs => k_is)
    (case z_len => k_is)
    (case z_int => k_is)
    (case z_max => k_is)
    (case z_range => k_is)
    (case z_isinstance => k_is)
    (case z_bool => k_is)
    (case z_str => k_is)
    (case z_tuple => k_is)

