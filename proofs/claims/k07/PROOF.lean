import PyProof.Rows.All
import Wide.All
import OpenK.AllK
import Wide.FinOn
import HandS.Call
import HandS.List
import HandS.Wide
import KE.KOpsOwn
import HandS.ForMost
import HandS.Gcd
import HandS.MakeKw
import HandS.IsInst
import HandS.Codes
import HandS.Zip
import HandS.Ends
import KE.KMathG
import HandS.FStr
import HandS.Property
import HandS.OwnEq
import KE.GoesMore
import PyProof.EnumMake
import HandS.Walk
import HandS.More
import PySem.Challenge.RW_wordworth_k07_inverse
/-! lowest terms, in plain Lean -/
namespace RT
def gg (t b : Int) : Int := ((Nat.gcd t.natAbs b.natAbs : Nat) : Int)
def byv (t b : Int) : Int := if b > 0 then gg t b else -(gg t b)
def top (t b : Int) : Int := t.fdiv (byv t b)
def bot (t b : Int) : Int := b.fdiv (byv t b)
theorem gg_pos {t b : Int} (h : b ≠ 0) : 0 < gg t b := by
  have : 0 < Nat.gcd t.natAbs b.natAbs := Nat.gcd_pos_of_pos_right _ (by omega)
  unfold gg; omega
theorem byv_ne {t b : Int} (h : b ≠ 0) : byv t b ≠ 0 := by
  have := gg_pos (t := t) h
  unfold byv; split <;> omega
theorem gg_dvd_l (t b : Int) : gg t b ∣ t := by
  unfold gg
  exact Int.ofNat_dvd_left.mpr (Nat.gcd_dvd_left _ _)
theorem gg_dvd_r (t b : Int) : gg t b ∣ b := by
  unfold gg
  exact Int.ofNat_dvd_left.mpr (Nat.gcd_dvd_right _ _)
theorem byv_dvd_l (t b : Int) : byv t b ∣ t := by
  unfold byv; split
  · exact gg_dvd_l t b
  · exact Int.neg_dvd.mpr (gg_dvd_l t b)
theorem byv_dvd_r (t b : Int) : byv t b ∣ b := by
  unfold byv; split
  · exact gg_dvd_r t b
  · exact Int.neg_dvd.mpr (gg_dvd_r t b)
theorem byv_natAbs (t b : Int) : (byv t b).natAbs = Nat.gcd t.natAbs b.natAbs := by
  unfold byv gg; split <;> simp
theorem fdiv_of_dvd {a b : Int} (hb : b ≠ 0) (h : b ∣ a) : a.fdiv b * b = a := by
  obtain ⟨k, rfl⟩ := h
  rw [Int.mul_fdiv_cancel_left _ hb, Int.mul_comm]
theorem top_mul {t b : Int} (h : b ≠ 0) : top t b * byv t b = t := fdiv_of_dvd (byv_ne h) (byv_dvd_l t b)
theorem bot_mul {t b : Int} (h : b ≠ 0) : bot t b * byv t b = b := fdiv_of_dvd (byv_ne h) (byv_dvd_r t b)
theorem bot_pos {t b : Int} (h : b ≠ 0) : 0 < bot t b := by
  have e := bot_mul (t := t) h
  have g := gg_pos (t := t) h
  unfold byv at e
  split at e
  · rename_i hb
    rcases Int.lt_trichotomy (bot t b) 0 with z | z | z
    · have := Int.mul_neg_of_neg_of_pos z g; omega
    · rw [z] at e; omega
    · exact z
  · rename_i hb
    rcases Int.lt_trichotomy (bot t b) 0 with z | z | z
    · have := Int.mul_neg_of_neg_of_pos z g
      have h2 : bot t b * -gg t b = -(bot t b * gg t b) := Int.mul_neg _ _
      omega
    · rw [z] at e; omega
    · exact z
theorem cop {t b : Int} (h : b ≠ 0) : Nat.Coprime (top t b).natAbs (bot t b).natAbs := by
  have e1 : (top t b).natAbs * Nat.gcd t.natAbs b.natAbs = t.natAbs := by
    rw [← byv_natAbs, ← Int.natAbs_mul, top_mul h]
  have e2 : (bot t b).natAbs * Nat.gcd t.natAbs b.natAbs = b.natAbs := by
    rw [← byv_natAbs, ← Int.natAbs_mul, bot_mul h]
  have hp : 0 < Nat.gcd t.natAbs b.natAbs := Nat.gcd_pos_of_pos_right _ (by omega)
  have : Nat.gcd ((top t b).natAbs * Nat.gcd t.natAbs b.natAbs) ((bot t b).natAbs * Nat.gcd t.natAbs b.natAbs) = Nat.gcd t.natAbs b.natAbs := by rw [e1, e2]
  rw [Nat.gcd_mul_right] at this
  unfold Nat.Coprime
  exact Nat.eq_of_mul_eq_mul_right hp (by rw [this, Nat.one_mul])
/-- two in lowest terms that are worth the same are the same -/
theorem uniq {n d n' d' : Int} (hd : 0 < d) (hd' : 0 < d') (c : Nat.Coprime n.natAbs d.natAbs) (c' : Nat.Coprime n'.natAbs d'.natAbs) (e : n * d' = n' * d) : n = n' ∧ d = d' := by
  have ea : n.natAbs * d'.natAbs = n'.natAbs * d.natAbs := by rw [← Int.natAbs_mul, e, Int.natAbs_mul]
  have h1 : d.natAbs ∣ d'.natAbs := c.symm.dvd_of_dvd_mul_left ⟨n'.natAbs, by rw [ea, Nat.mul_comm]⟩
  have h2 : d'.natAbs ∣ d.natAbs := c'.symm.dvd_of_dvd_mul_left ⟨n.natAbs, by rw [← ea, Nat.mul_comm]⟩
  have h3 : d.natAbs = d'.natAbs := Nat.dvd_antisymm h1 h2
  have h4 : d = d' := by omega
  subst h4
  exact ⟨Int.eq_of_mul_eq_mul_right (by omega) e, rfl⟩
theorem same {t b t' b' : Int} (h : b ≠ 0) (h' : b' ≠ 0) (e : t * b' = t' * b) : top t b = top t' b' ∧ bot t b = bot t' b' := by
  refine uniq (bot_pos h) (bot_pos h') (cop h) (cop h') ?_
  have e1 := top_mul (t := t) h
  have e2 := bot_mul (t := t) h
  have e3 := top_mul (t := t') h'
  have e4 := bot_mul (t := t') h'
  refine Int.eq_of_mul_eq_mul_right (byv_ne (t := t) h) (Int.eq_of_mul_eq_mul_right (byv_ne (t := t') h') ?_)
  calc top t b * bot t' b' * byv t b * byv t' b' = (top t b * byv t b) * (bot t' b' * byv t' b') := by ac_rfl
    _ = t * b' := by rw [e1, e4]
    _ = t' * b := e
    _ = (top t' b' * byv t' b') * (bot t b * byv t b) := by rw [e3, e2]
    _ = top t' b' * bot t b * byv t b * byv t' b' := by ac_rfl
/-- what is in lowest terms stays -/
theorem keeps {n d : Int} (hd : 0 < d) (c : Nat.Coprime n.natAbs d.natAbs) : top n d = n ∧ bot n d = d := by
  have h : d ≠ 0 := by omega
  refine uniq (bot_pos h) hd (cop h) c ?_
  have e1 := top_mul (t := n) h
  have e2 := bot_mul (t := n) h
  refine Int.eq_of_mul_eq_mul_right (byv_ne (t := n) h) ?_
  calc top n d * d * byv n d = (top n d * byv n d) * d := by ac_rfl
    _ = n * d := by rw [e1]
    _ = n * (bot n d * byv n d) := by rw [e2]
    _ = n * bot n d * byv n d := by ac_rfl
theorem one (t : Int) : top t 1 = t ∧ bot t 1 = 1 := keeps (by decide) (Nat.coprime_one_right _)
/-- worth: the fraction is the same number -/
theorem cross {t b : Int} (h : b ≠ 0) : top t b * b = t * bot t b := by
  have e1 := top_mul (t := t) h
  have e2 := bot_mul (t := t) h
  have e : top t b * b = top t b * (bot t b * byv t b) := by rw [e2]
  have e' : t * bot t b = (top t b * byv t b) * bot t b := by rw [e1]
  rw [e, e']; ac_rfl
theorem top_le {t b : Int} (h : b ≠ 0) : (top t b).natAbs ≤ t.natAbs := by
  have e1 : (top t b).natAbs * (byv t b).natAbs = t.natAbs := by rw [← Int.natAbs_mul, top_mul h]
  have : 0 < (byv t b).natAbs := by have := byv_ne (t := t) h; omega
  rw [← e1]; exact Nat.le_mul_of_pos_right _ this
theorem bot_le {t b : Int} (h : b ≠ 0) : (bot t b).natAbs ≤ b.natAbs := by
  have e1 : (bot t b).natAbs * (byv t b).natAbs = b.natAbs := by rw [← Int.natAbs_mul, bot_mul h]
  have : 0 < (byv t b).natAbs := by have := byv_ne (t := t) h; omega
  rw [← e1]; exact Nat.le_mul_of_pos_right _ this
theorem byv_le {t b : Int} (h : b ≠ 0) : (byv t b).natAbs ≤ b.natAbs := by
  rw [byv_natAbs]; exact Nat.le_of_dvd (by omega) (Nat.gcd_dvd_right _ _)
/-- minus and less -/
theorem neg_cop {n d : Int} (c : Nat.Coprime n.natAbs d.natAbs) : Nat.Coprime (0 - n).natAbs d.natAbs := by
  have : (0 - n).natAbs = n.natAbs := by omega
  rw [this]; exact c
/-- distributive, over lowest terms -/
theorem chain {a b c d e f : Int} (hb : b ≠ 0) (hd : d ≠ 0) (hf : f ≠ 0) :
    top (top (a * e) (b * f) * bot (c * e) (d * f) + top (c * e) (d * f) * bot (a * e) (b * f)) (bot (a * e) (b * f) * bot (c * e) (d * f))
      = top (top (a * d + c * b) (b * d) * e) (bot (a * d + c * b) (b * d) * f) ∧
    bot (top (a * e) (b * f) * bot (c * e) (d * f) + top (c * e) (d * f) * bot (a * e) (b * f)) (bot (a * e) (b * f) * bot (c * e) (d * f))
      = bot (top (a * d + c * b) (b * d) * e) (bot (a * d + c * b) (b * d) * f) := by
  have h1 : b * f ≠ 0 := Int.mul_ne_zero hb hf
  have h2 : d * f ≠ 0 := Int.mul_ne_zero hd hf
  have h3 : b * d ≠ 0 := Int.mul_ne_zero hb hd
  have p1 := bot_pos (t := a * e) h1
  have p2 := bot_pos (t := c * e) h2
  have p3 := bot_pos (t := a * d + c * b) h3
  have x1 := cross (t := a * e) h1
  have x2 := cross (t := c * e) h2
  have x3 := cross (t := a * d + c * b) h3
  generalize top (a * e) (b * f) = n1 at *
  generalize bot (a * e) (b * f) = d1 at *
  generalize top (c * e) (d * f) = n2 at *
  generalize bot (c * e) (d * f) = d2 at *
  generalize top (a * d + c * b) (b * d) = n3 at *
  generalize bot (a * d + c * b) (b * d) = d3 at *
  refine same (Int.mul_ne_zero (by omega) (by omega)) (Int.mul_ne_zero (by omega) hf) ?_
  -- (n1 d2 + n2 d1) (d3 f) = (n3 e) (d1 d2)
  refine Int.eq_of_mul_eq_mul_right h3 (Int.eq_of_mul_eq_mul_right hf ?_)
  have L : (n1 * d2 + n2 * d1) * (d3 * f) * (b * d) * f = ((n1 * (b * f)) * (d2 * d * d3) + (n2 * (d * f)) * (d1 * b * d3)) * f := by
    simp only [Int.add_mul, Int.mul_add]
    congr 1 <;> ac_rfl
  have R : n3 * e * (d1 * d2) * (b * d) * f = (n3 * (b * d)) * (e * d1 * d2 * f) := by ac_rfl
  rw [L, R, x1, x2, x3]
  simp only [Int.add_mul, Int.mul_add]
  congr 1 <;> ac_rfl
end RT

set_option Elab.async false
set_option maxRecDepth 100000
namespace RX
open PySem PySem.Spec PyProof.Rows L2
/-- // by a divisor of either sign, below 2 ^ 9000 -/
def CDivZ (_ j : Int) : Prop := j ≠ 0 ∧ j.natAbs.log2 < 9000
theorem op_fdivZ {X : Cx} : OpR X (binaryOp .FloorDiv) (rI CDivZ fun i j => .int (i.fdiv j)) := opI fun _ _ _ _ _ _ _ hc q => floordiv_int hc.1 q (.inl (PyProof.noPylong_of_log2 hc.2))
theorem divZ {i j : Int} {b : Nat} (h : j ≠ 0) (hb : j.natAbs < 2 ^ b) (h0 : 0 < b) (h9 : b ≤ 9000) : CDivZ i j := ⟨h, Nat.lt_of_lt_of_le (PySem.Flt.log2_lt_of h0 hb) h9⟩
/-- the class at C has the operator op as the def at f -/
structure OpOf (K : PySem.W.Frag) (C : Addr) (x : Str) (f : Addr) : Prop where
  first : PySem.W.selfFirst K C = true
  at_ : PySem.W.findIn K (.ref C) x = some (some (.ref f))
  fn : PySem.W.isFn K (.ref f) = true
/-- a op b, both instances of the class at C: what the operator's def promises; it hands back an object -/
def rOwn (C : Addr) (sp : Sp) (E : XK) : R2 := fun x y H Q => ∃ a b dx dy fs gs, x = .ref a ∧ y = .ref b ∧ H a = some (.ins C dx fs) ∧ H b = some (.ins C dy gs) ∧ sp [.ref a, .ref b] H (fun v H' => (∃ c, v = .ref c) ∧ Q v H') E
def rOwn1 (C : Addr) (sp : Sp) (E : XK) : V → Hp → VK → Prop := fun x H Q => ∃ a dx fs, x = .ref a ∧ H a = some (.ins C dx fs) ∧ sp [.ref a] H Q E
section
variable {X : Cx} {CX : CXT} {k : Nat} {C f : Addr} {fd : FuncData} {ps : List Str} {sp : Sp} {E : XK}
theorem op_own {op : Operator} (O : OpOf X.K C (PySem.dunder op.info.2) f) (F : FnOk X.prog X.w X.K X.mg X.base CX k f fd ps sp) (hr : Room k X.A) (hb : Binds X.K fd ps []) (hx : Passes CX X E) : OpR X (binaryOp op) (rOwn C sp E) := by
  intro pins s σ H x y v u Q I rx ry h
  obtain ⟨a, b, dx, dy, fs, gs, rfl, rfl, ha, hb', hs⟩ := h
  cases rx
  cases ry
  obtain ⟨mA, J, _⟩ := ins_get I.hok ha
  obtain ⟨mB, J', _⟩ := ins_get I.hok hb'
  obtain ⟨od, J, _⟩ := J.look
  obtain ⟨od', J', _⟩ := J'.look
  obtain ⟨m, hF⟩ := I.fr
  refine PySem.W.binop_K hF I.ok.mod.kin J J'.type O.first O.at_ O.fn ?_
  refine thn (run_fn (us := [.ref a, .ref b]) (vs := [.ref a, .ref b]) (dvs := []) (ds := []) F hr hb .nil hx I (.cons rfl (.cons rfl .nil)) hs) fun w' s' hq => ?_
  obtain ⟨z, H', I', rz, ⟨c, ez⟩, q⟩ := hq
  subst ez
  cases rz
  exact ⟨.ref c, H', I', rfl, q⟩
theorem un_own {op : UnaryOp} (h1 : op = .USub) (hs : PySem.W.findIn X.K (.ref C) "__neg__" = some (some (.ref f))) (hf : PySem.W.isFn X.K (.ref f) = true) (F : FnOk X.prog X.w X.K X.mg X.base CX k f fd ps sp) (hr : Room k X.A) (hb : Binds X.K fd ps []) (hx : Passes CX X E) : UnR X (unaryOp op) (rOwn1 C sp E) := by
  subst h1
  intro pins s σ H x v Q I rx h
  obtain ⟨a, dx, fs, rfl, ha, hsp⟩ := h
  cases rx
  obtain ⟨mA, J, _⟩ := ins_get I.hok ha
  obtain ⟨od, J, _⟩ := J.look
  obtain ⟨m, hF⟩ := I.fr
  refine PySem.W.ksp_neg hF I.ok.mod.kin J hs hf ?_
  exact run_fn (us := [.ref a]) (vs := [.ref a]) (dvs := []) (ds := []) F hr hb .nil hx I (.cons rfl .nil) hsp
end
end RX

set_option Elab.async false
set_option maxRecDepth 100000
namespace RX
open PySem L2
def topS (i : Nat) : Stmt := PySem.Challenge.pw_wordworth_k07_inverse.main.body.getD i (.Pass ⟨0, 0, 0, 0⟩)
abbrev sInit : Stmt := inClass (topS 6) 0
abbrev sAdd : Stmt := inClass (topS 6) 1
abbrev sSub : Stmt := inClass (topS 6) 2
abbrev sMul : Stmt := inClass (topS 6) 3
abbrev sNeg : Stmt := inClass (topS 6) 4
/-! ### a Ratio -/
theorem tb : ¬ (("top" : Str) = "bottom") := by decide +kernel
def rf (n d : Int) : List (Str × V) := putF "bottom" (.int d) (putF "top" (.int n) [])
theorem rf_top (n d : Int) : (rf n d).lookup ("top" : Str) = some (.int n) := by
  unfold rf
  rw [lookup_putF, if_neg tb, lookup_putF, if_pos rfl]
theorem rf_bot (n d : Int) : (rf n d).lookup ("bottom" : Str) = some (.int d) := by
  unfold rf
  rw [lookup_putF, if_pos rfl]
theorem rf_no (n d : Int) {m : Str} (h1 : ¬ m = "bottom") (h2 : ¬ m = "top") : (rf n d).lookup m = none := by
  unfold rf
  rw [lookup_putF, if_neg h1, lookup_putF, if_neg h2]
  all_goals rfl
/-- the Ratio n / d stands at p -/
def RatAt (C : Addr) (H : Hp) (p : Addr) (n d : Int) : Prop := ∃ dx, H p = some (.ins C dx (rf n d))
theorem RatAt.same {C : Addr} {H H' : Hp} {p : Addr} {n d : Int} (s : Same H H') (h : RatAt C H p n d) : RatAt C H' p n d := let ⟨dx, e⟩ := h; ⟨dx, s _ _ e⟩
theorem Same.upd {H : Hp} {p : Addr} {o : HO} (h : H p = none) : Same H (upd H p o) := fun b x e => by
  rw [upd_ne (ne_of_none e h)]
  exact e
/-- of at most 4400 bits -/
def Sm (x : Int) : Prop := x.natAbs < 2 ^ 4400
/-- of at most 8900 bits -/
def Md (x : Int) : Prop := x.natAbs < 2 ^ 8900
theorem Sm.mul {x y : Int} (a : Sm x) (b : Sm y) : x.natAbs * y.natAbs < 2 ^ 8800 := by
  have := Nat.mul_lt_mul'' a b
  rw [← Nat.pow_add] at this
  exact this
theorem Sm.w {x y : Int} (a : Sm x) (b : Sm y) : CMulW x y := wide_mul a b (by decide) (by decide) (by decide)
theorem Sm.md {x y : Int} (a : Sm x) (b : Sm y) : Md (x * y) := by
  unfold Md
  rw [Int.natAbs_mul]
  exact Nat.lt_trans (Sm.mul a b) (Nat.pow_lt_pow_right (by decide) (by decide))
/-! ### promises -/
def spInit (C : Addr) : Sp := fun vs H Q _ => ∃ (p dx : Addr) (t b : Int), vs = [.ref p, .int t, .int b] ∧ H p = some (.ins C dx []) ∧ b ≠ 0 ∧ Md b ∧
  ∀ H' : Hp, RatAt C H' p (RT.top t b) (RT.bot t b) → (∀ c o, H c = some o → c ≠ p → H' c = some o) → Q .non H'
/-- of two Ratios: a new one -/
def spBin (C : Addr) (g g' : Int → Int → Int → Int → Int) : Sp := fun vs H Q _ => ∃ (p q : Addr) (n d m e : Int), vs = [.ref p, .ref q] ∧ RatAt C H p n d ∧ RatAt C H q m e ∧ d ≠ 0 ∧ e ≠ 0 ∧ Sm n ∧ Sm d ∧ Sm m ∧ Sm e ∧
  ∀ (r : Addr) (H' : Hp), Same H H' → H r = none → RatAt C H' r (RT.top (g n d m e) (g' n d m e)) (RT.bot (g n d m e) (g' n d m e)) → Q (.ref r) H'
def spAdd (C : Addr) : Sp := spBin C (fun n d m e => n * e + m * d) (fun _ d _ e => d * e)
def spSub (C : Addr) : Sp := spBin C (fun n d m e => n * e - m * d) (fun _ d _ e => d * e)
def spMul (C : Addr) : Sp := spBin C (fun n _ m _ => n * m) (fun _ d _ e => d * e)
def spNeg (C : Addr) : Sp := fun vs H Q _ => ∃ (p : Addr) (n d : Int), vs = [.ref p] ∧ RatAt C H p n d ∧ d ≠ 0 ∧ Sm d ∧
  ∀ (r : Addr) (H' : Hp), Same H H' → H r = none → RatAt C H' r (RT.top (-n) d) (RT.bot (-n) d) → Q (.ref r) H'
structure TxtR (K : PySem.W.Frag) (mg : Str → Option Value) (C : Addr) : Prop where
  cl : Cls K C
  nT : NoAttr K C "top"
  nB : NoAttr K C "bottom"
  mgC : mg "Ratio" = some (.ref C)
  gcd : mg "gcd" = some (.builtin "math.gcd")
section
variable {P : Program} {w : World} {K : PySem.W.Frag} {mg : Str → Option Value} {base : Heap}
theorem scI : FnScope ["self", "top", "bottom", "shared", "by"] ["self", "top", "bottom"] (defScope sInit) := ⟨rfl, rfl, rfl, by decide +kernel, rfl, by decide +kernel, by decide +kernel⟩
theorem ok_init {f C : Addr} {fd : FuncData} (F : FunD K "__init__" "Ratio.__init__" (defArgs sInit) (defBody sInit) (defScope sInit) [.int 1] [] f fd) (T : TxtR K mg C) : FnOk P w K mg base CX0 1 f fd ["self", "top", "bottom"] (spInit C) := by
  refine F.ok scI (fun vs H Q E h => ?_) (fun cdv A outer s H vs Q E hr h => ?_)
  · obtain ⟨p, dx, t, b, rfl, _⟩ := h
    rfl
  · obtain ⟨p, dx, t, b, rfl, hp, hb, hz, k⟩ := h
    refine ⟨_, pss_cons (ps_if (pt_cmpR op_eq (pv 2) pe_int (nomark _)) (pss_one ps_never) pss_nil)
      (pss_cons (ps_set (i := 3) scI.nd rfl (Or.inl rfl) (pe_callBfun cr_gcd (by rfl) T.gcd (pa_cons (pv 1) (pa_cons (pv 2) pa_nil))))
      (pss_cons (ps_set (i := 4) scI.nd rfl (Or.inl rfl) (pe_ifExp (pt_cmpR op_gt (pv 2) pe_int (nomark _)) (pv 3) (pe_un un_neg (pv 3))))
      (pss_cons (ps_fld (pv 0) (pe_op op_fdivZ (pv 1) (pv 4)) rfl)
      (pss_one (ps_fld (pv 0) (pe_op op_fdivZ (pv 2) (pv 4)) rfl))))), ?_⟩
    refine ⟨_, rfl, rfl, _, rfl, ?_⟩
    refine ite2 (fun z => ?_) (fun _ => ?_)
    · have z' := of_decide_eq_true z
      injection z' with z'
      exact absurd z' hb
    refine ⟨_, rfl, _, rfl, t, b, rfl, ?_⟩
    refine ⟨_, rfl, _, _, rfl, rfl, _, rfl, ?_⟩
    have by_ne := RT.byv_ne (t := t) hb
    have by_le := RT.byv_le (t := t) hb
    have hdiv : ∀ x y : Int, y = RT.byv t b → CDivZ x y := fun x y e => by
      subst e
      exact divZ by_ne (Nat.lt_of_le_of_lt by_le hz) (by decide) (by decide)
    have key : (if decide (b > 0) = true then RT.gg t b else -RT.gg t b) = RT.byv t b := by
      unfold RT.byv
      by_cases h0 : b > 0
      · rw [if_pos h0, if_pos (decide_eq_true h0)]
      · rw [if_neg h0, if_neg (by rw [decide_eq_false h0]; exact Bool.false_ne_true)]
    have fin : ∀ x : Int, x = RT.byv t b → Q .non (upd (upd H p (.ins C dx (putF "top" (.int (t.fdiv x)) []))) p (.ins C dx (putF "bottom" (.int (b.fdiv x)) (putF "top" (.int (t.fdiv x)) [])))) := fun x e => by
      subst e
      refine k _ ⟨dx, upd_same⟩ fun c o hc ne => ?_
      rw [upd_ne ne, upd_ne ne]
      exact hc
    refine ite2 (fun z => ?_) (fun z => ?_)
    · rw [if_pos z] at key
      refine ⟨_, rfl, _, rfl, _, rfl, _, _, rfl, rfl, (hdiv t _ key), _, rfl, p, C, dx, [], rfl, hp, T.cl, T.nT, (by show 0 < 1000; decide), ?_⟩
      exact ⟨_, rfl, _, rfl, _, _, rfl, rfl, (hdiv b _ key), _, rfl, p, C, dx, _, rfl, upd_same, T.cl, T.nB, (by show 1 < 1000; decide), fin _ key⟩
    · rw [if_neg z] at key
      refine ⟨_, rfl, _, rfl, _, rfl, _, rfl, _, _, rfl, rfl, (hdiv t _ key), _, rfl, p, C, dx, [], rfl, hp, T.cl, T.nT, (by show 0 < 1000; decide), ?_⟩
      exact ⟨_, rfl, _, rfl, _, _, rfl, rfl, (hdiv b _ key), _, rfl, p, C, dx, _, rfl, upd_same, T.cl, T.nB, (by show 1 < 1000; decide), fin _ key⟩
/-- Ratio(t, b), both written: the rule's own question answered -/
theorem make_in {C : Addr} {H : Hp} {t b : Int} {Q : VK} {E : XK} (hb : b ≠ 0) (hz : Md b) (k : ∀ (r : Addr) (H' : Hp), Same H H' → H r = none → RatAt C H' r (RT.top t b) (RT.bot t b) → Q (.ref r) H') :
    ∀ x dx, H x = none → H dx = none → dx ≠ x → spInit C (.ref x :: ([.int t, .int b] ++ [])) (upd (upd H dx (.own x)) x (.ins C dx [])) (fun v H2 => v = .non ∧ Q (.ref x) H2) E := by
  intro x dx nx nd ne
  exact ⟨x, dx, t, b, rfl, upd_same, hb, hz, fun H' hR kp => ⟨rfl, k x H' (Same.made nx nd kp) nx hR⟩⟩
theorem scA : FnScope ["self", "other", "top"] ["self", "other"] (defScope sAdd) := ⟨rfl, rfl, rfl, by decide +kernel, rfl, by decide +kernel, by decide +kernel⟩
theorem scS : FnScope ["self", "other", "top"] ["self", "other"] (defScope sSub) := ⟨rfl, rfl, rfl, by decide +kernel, rfl, by decide +kernel, by decide +kernel⟩
theorem scM : FnScope ["self", "other"] ["self", "other"] (defScope sMul) := ⟨rfl, rfl, rfl, by decide +kernel, rfl, by decide +kernel, by decide +kernel⟩
theorem scN : FnScope ["self"] ["self"] (defScope sNeg) := ⟨rfl, rfl, rfl, by decide +kernel, rfl, by decide +kernel, by decide +kernel⟩
section
variable {f fI C : Addr} {fd fdI : FuncData} {k : Nat} (T : TxtR K mg C) (M : Mk K C fI) (GI : FnOk P w K mg base CX0 1 fI fdI ["self", "top", "bottom"] (spInit C)) (bI : Binds K fdI ["self", "top", "bottom"] [])
include T M GI bI
theorem ok_add (F : Fun K "__add__" "Ratio.__add__" sAdd f fd) : FnOk P w K mg base CX0 3 f fd ["self", "other"] (spAdd C) := by
  refine F.ok scA (fun vs H Q E h => ?_) (fun cdv A outer s H vs Q E hr h => ?_)
  · obtain ⟨p, q, n, d, m, e, rfl, _⟩ := h
    rfl
  · obtain ⟨p, q, n, d, m, e, rfl, ⟨dx, hp⟩, ⟨dy, hq⟩, hd, he, sn, sd, sm, se, kk⟩ := h
    refine ⟨_, pss_cons (ps_set (i := 2) scA.nd rfl (Or.inl rfl) (pe_op op_add (pe_op op_mulW (pe_fld (pv 0) rfl) (pe_fld (pv 1) rfl)) (pe_op op_mulW (pe_fld (pv 1) rfl) (pe_fld (pv 0) rfl))))
      (pss_one (ps_ret (pe_make M GI hr rfl T.mgC bI .nil pass0 (pa_cons (pv 2) (pa_cons (pe_op op_mulW (pe_fld (pv 0) rfl) (pe_fld (pv 1) rfl)) pa_nil))))), ?_⟩
    refine ⟨_, rfl, p, C, dx, _, _, rfl, hp, T.cl, T.nT, rf_top _ _, _, rfl, q, C, dy, _, _, rfl, hq, T.cl, T.nB, rf_bot _ _, _, _, rfl, rfl, Sm.w sn se,
      _, rfl, q, C, dy, _, _, rfl, hq, T.cl, T.nT, rf_top _ _, _, rfl, p, C, dx, _, _, rfl, hp, T.cl, T.nB, rf_bot _ _, _, _, rfl, rfl, Sm.w sm sd, _, _, rfl, rfl, ?_⟩
    refine ⟨_, rfl, _, rfl, p, C, dx, _, _, rfl, hp, T.cl, T.nB, rf_bot _ _, _, rfl, q, C, dy, _, _, rfl, hq, T.cl, T.nB, rf_bot _ _, _, _, rfl, rfl, Sm.w sd se, ?_⟩
    exact make_in (Int.mul_ne_zero hd he) (Sm.md sd se) kk
theorem ok_sub (F : Fun K "__sub__" "Ratio.__sub__" sSub f fd) : FnOk P w K mg base CX0 3 f fd ["self", "other"] (spSub C) := by
  refine F.ok scS (fun vs H Q E h => ?_) (fun cdv A outer s H vs Q E hr h => ?_)
  · obtain ⟨p, q, n, d, m, e, rfl, _⟩ := h
    rfl
  · obtain ⟨p, q, n, d, m, e, rfl, ⟨dx, hp⟩, ⟨dy, hq⟩, hd, he, sn, sd, sm, se, kk⟩ := h
    refine ⟨_, pss_cons (ps_set (i := 2) scS.nd rfl (Or.inl rfl) (pe_op op_sub (pe_op op_mulW (pe_fld (pv 0) rfl) (pe_fld (pv 1) rfl)) (pe_op op_mulW (pe_fld (pv 1) rfl) (pe_fld (pv 0) rfl))))
      (pss_one (ps_ret (pe_make M GI hr rfl T.mgC bI .nil pass0 (pa_cons (pv 2) (pa_cons (pe_op op_mulW (pe_fld (pv 0) rfl) (pe_fld (pv 1) rfl)) pa_nil))))), ?_⟩
    refine ⟨_, rfl, p, C, dx, _, _, rfl, hp, T.cl, T.nT, rf_top _ _, _, rfl, q, C, dy, _, _, rfl, hq, T.cl, T.nB, rf_bot _ _, _, _, rfl, rfl, Sm.w sn se,
      _, rfl, q, C, dy, _, _, rfl, hq, T.cl, T.nT, rf_top _ _, _, rfl, p, C, dx, _, _, rfl, hp, T.cl, T.nB, rf_bot _ _, _, _, rfl, rfl, Sm.w sm sd, _, _, rfl, rfl, ?_⟩
    refine ⟨_, rfl, _, rfl, p, C, dx, _, _, rfl, hp, T.cl, T.nB, rf_bot _ _, _, rfl, q, C, dy, _, _, rfl, hq, T.cl, T.nB, rf_bot _ _, _, _, rfl, rfl, Sm.w sd se, ?_⟩
    exact make_in (Int.mul_ne_zero hd he) (Sm.md sd se) kk
theorem ok_mul (F : Fun K "__mul__" "Ratio.__mul__" sMul f fd) : FnOk P w K mg base CX0 3 f fd ["self", "other"] (spMul C) := by
  refine F.ok scM (fun vs H Q E h => ?_) (fun cdv A outer s H vs Q E hr h => ?_)
  · obtain ⟨p, q, n, d, m, e, rfl, _⟩ := h
    rfl
  · obtain ⟨p, q, n, d, m, e, rfl, ⟨dx, hp⟩, ⟨dy, hq⟩, hd, he, sn, sd, sm, se, kk⟩ := h
    refine ⟨_, pss_one (ps_ret (pe_make M GI hr rfl T.mgC bI .nil pass0 (pa_cons (pe_op op_mulW (pe_fld (pv 0) rfl) (pe_fld (pv 1) rfl)) (pa_cons (pe_op op_mulW (pe_fld (pv 0) rfl) (pe_fld (pv 1) rfl)) pa_nil)))), ?_⟩
    refine ⟨_, rfl, p, C, dx, _, _, rfl, hp, T.cl, T.nT, rf_top _ _, _, rfl, q, C, dy, _, _, rfl, hq, T.cl, T.nT, rf_top _ _, _, _, rfl, rfl, Sm.w sn sm, ?_⟩
    refine ⟨_, rfl, p, C, dx, _, _, rfl, hp, T.cl, T.nB, rf_bot _ _, _, rfl, q, C, dy, _, _, rfl, hq, T.cl, T.nB, rf_bot _ _, _, _, rfl, rfl, Sm.w sd se, ?_⟩
    exact make_in (Int.mul_ne_zero hd he) (Sm.md sd se) kk
theorem ok_neg (F : Fun K "__neg__" "Ratio.__neg__" sNeg f fd) : FnOk P w K mg base CX0 3 f fd ["self"] (spNeg C) := by
  refine F.ok scN (fun vs H Q E h => ?_) (fun cdv A outer s H vs Q E hr h => ?_)
  · obtain ⟨p, n, d, rfl, _⟩ := h
    rfl
  · obtain ⟨p, n, d, rfl, ⟨dx, hp⟩, hd, sd, kk⟩ := h
    refine ⟨_, pss_one (ps_ret (pe_make M GI hr rfl T.mgC bI .nil pass0 (pa_cons (pe_un un_neg (pe_fld (pv 0) rfl)) (pa_cons (pe_fld (pv 0) rfl) pa_nil)))), ?_⟩
    refine ⟨_, rfl, p, C, dx, _, _, rfl, hp, T.cl, T.nT, rf_top _ _, _, rfl, ?_⟩
    refine ⟨_, rfl, p, C, dx, _, _, rfl, hp, T.cl, T.nB, rf_bot _ _, ?_⟩
    exact make_in hd (Nat.lt_trans sd (Nat.pow_lt_pow_right (by decide) (by decide))) kk
end
end
end RX

set_option Elab.async false
set_option maxRecDepth 100000
namespace RX
open PySem L2
/-! ### the draws -/
abbrev sFeed : Stmt := topS 18
abbrev sDraw : Stmt := topS 19
abbrev sGreat : Stmt := topS 20
/-- the feed stands at a: its cells, the next place, what is left of a great cell, the seed -/
structure FeedIs (H : Hp) (a cl : Addr) (cs : List Int) (i p s : Int) : Prop where
  hA : H a = some (.lst [.ref cl, .int i, .int p, .int s])
  hC : H cl = some (.lst (cs.map V.int))
  ne : cl ≠ a
  i0 : 0 ≤ i
  p0 : 0 ≤ p
  s0 : 0 ≤ s
  s1 : s < 2147483648
  len : cs.length ≤ 63
  nn : ∀ c ∈ cs, 0 ≤ c
def FeedAt (H : Hp) (a cl : Addr) : Prop := ∃ cs i p s, FeedIs H a cl cs i p s
/-- all but what stands at a is as it was -/
def But (a : Addr) (H H' : Hp) : Prop := ∀ b o, H b = some o → b ≠ a → H' b = some o
theorem But.refl (a : Addr) (H : Hp) : But a H H := fun _ _ h _ => h
theorem But.trans {a : Addr} {H H1 H2 : Hp} (x : But a H H1) (y : But a H1 H2) : But a H H2 := fun b o h n => y b o (x b o h n) n
theorem Same.but {a : Addr} {H H1 : Hp} (x : Same H H1) : But a H H1 := fun b o h _ => x b o h
theorem But.upd (a : Addr) (H : Hp) (o : HO) : But a H (L2.upd H a o) := fun b o' h n => by rw [upd_ne n]; exact h
theorem FeedIs.same {H H' : Hp} {a cl : Addr} {cs : List Int} {i p s : Int} (h : FeedIs H a cl cs i p s) (x : Same H H') : FeedIs H' a cl cs i p s :=
  ⟨x _ _ h.hA, x _ _ h.hC, h.ne, h.i0, h.p0, h.s0, h.s1, h.len, h.nn⟩
theorem FeedAt.same {H H' : Hp} {a cl : Addr} (h : FeedAt H a cl) (x : Same H H') : FeedAt H' a cl := let ⟨cs, i, p, s, f⟩ := h; ⟨cs, i, p, s, f.same x⟩
/-- the feed's list written anew -/
theorem FeedIs.put {H : Hp} {a cl : Addr} {cs : List Int} {i p s i' p' s' : Int} (h : FeedIs H a cl cs i p s) (i0 : 0 ≤ i') (p0 : 0 ≤ p') (s0 : 0 ≤ s') (s1 : s' < 2147483648) :
    FeedIs (upd H a (.lst [.ref cl, .int i', .int p', .int s'])) a cl cs i' p' s' :=
  ⟨upd_same, by rw [upd_ne h.ne]; exact h.hC, h.ne, i0, p0, s0, s1, h.len, h.nn⟩
def spFeed (K : PySem.W.Frag) : Sp := fun vs H Q _ => ∃ (a : Addr) (ns : List Int), vs = [.ref a] ∧ SqL K H a (ns.map V.int) ∧ ns.length ≤ 63 ∧ ∀ (r cl : Addr) (H' : Hp), Same H H' → H r = none → H cl = none → FeedAt H' r cl → Q (.ref r) H'
def spDraw : Sp := fun vs H Q _ => ∃ (a cl : Addr) (m : Int), vs = [.ref a, .int m] ∧ FeedAt H a cl ∧ 0 < m ∧ m < 1073741824 ∧ ∀ (r : Int) (H' : Hp), 0 ≤ r → r < m → FeedAt H' a cl → But a H H' → Q (.int r) H'
def spGreat : Sp := fun vs H Q _ => ∃ (a cl : Addr) (m : Int), vs = [.ref a, .int m] ∧ FeedAt H a cl ∧ 0 ≤ m ∧ m ≤ 100 ∧ ∀ (r : Int) (H' : Hp), 0 ≤ r → r < 100000 ^ m.toNat → FeedAt H' a cl → But a H H' → Q (.int r) H'
structure TxtL (mg : Str → Option Value) : Prop where
  abs : mg "abs" = none
  len : mg "len" = none
  int : mg "int" = none
  max : mg "max" = none
  range : mg "range" = none
  isi : mg "isinstance" = none
  bool : mg "bool" = none
section
variable {P : Program} {w : World} {K : PySem.W.Frag} {mg : Str → Option Value} {base : Heap}
theorem scFe : FnScope ["script", "cell"] ["script"] (defScope sFeed) := ⟨rfl, rfl, rfl, by decide +kernel, rfl, by decide +kernel, by decide +kernel⟩
theorem cut63 (xs : List V) (h : xs.length ≤ 63) : cutV xs none (some 63) = xs := by
  unfold cutV
  rw [show HT.sIx xs.length xs.length (some 63) = min 63 xs.length from HT.sIx_nat xs.length xs.length 63, HT.sIx_none, Nat.min_eq_right h, List.drop_zero, Nat.sub_zero]
  exact List.take_length
theorem ok_feed {f : Addr} {fd : FuncData} (F : Fun K "_law_feed" "_law_feed" sFeed f fd) (T : TxtL mg) : FnOk P w K mg base CX0 1 f fd ["script"] (spFeed K) := by
  refine F.ok scFe (fun vs H Q E h => ?_) (fun cdv A outer s H vs Q E hr h => ?_)
  · obtain ⟨a, ns, rfl, _⟩ := h
    rfl
  · obtain ⟨a, ns, rfl, hS, hl, k⟩ := h
    refine ⟨_, pss_one (ps_ret (pe_lst (pa_cons (pe_lc (own := [("cell", 1)]) (g := gName 1) (tt := tYes) rfl scFe.nd (pi_list (pe_slice sl_list (pv 0) po_none (po_some pe_int))) (blkOk_by (N := ["script", "cell"]) (sc := defScope sFeed) (by decide +kernel))
        (fun _ _ _ _ _ => pg_name (i := 1) scFe.nd rfl (Or.inl rfl)) (fun _ _ _ _ _ => pts_nil) (fun _ _ _ _ _ => pe_callB call_abs (by rfl) T.abs (by decide +kernel) (pa_cons (pv 1) pa_nil)))
      (pa_cons pe_int (pa_cons pe_int (pa_cons (pe_op op_add pe_int (pe_callB call_len_seq (by rfl) T.len PySem.boot_len (pa_cons (pv 0) pa_nil))) pa_nil)))))), ?_⟩
    refine ⟨.ref a, rfl, 63, rfl, a, ns.map V.int, rfl, hS, fun c nc => ?_⟩
    rw [cut63 _ (by rw [List.length_map]; exact hl)]
    have s1 : Same H (upd H c (.lst (ns.map V.int))) := Same.upd nc
    refine ⟨c, rfl, ⟨_, SqL.of upd_same⟩, fun D nD => ?_⟩
    have ncD : c ≠ D := ne_of_none upd_same nD
    have nD0 : H D = none := s1.free nD
    refine lc_list (K := K) (a := c) (xs := ns.map V.int) (fun i H2 => Same H H2 ∧ H2 c = some (.lst (ns.map V.int)) ∧ H2 D = some (.lst (((ns.take i).map fun z => if z < 0 then -z else z).map V.int))) ⟨s1.trans (Same.upd nD), by rw [upd_ne ncD]; exact upd_same, upd_same⟩ (fun i H2 _ h => SqL.of h.2.1) ?_ ?_
    · rintro i x H2 hi ⟨s2, hq, hD⟩
      obtain ⟨z, hz, rfl⟩ : ∃ z, ns[i]? = some z ∧ V.int z = x := by
        rw [List.getElem?_map] at hi
        cases e : ns[i]? with
        | none => rw [e] at hi; cases hi
        | some z => rw [e] at hi; exact ⟨z, rfl, Option.some.inj hi⟩
      have hi63 : i < ns.length := (List.getElem?_eq_some_iff.mp hz).1
      refine ⟨rfl, ?_⟩
      refine ⟨_, rfl, z, rfl, _, hD, ?_, ?_⟩
      · rw [List.length_map, List.length_map, List.length_take]
        exact Nat.lt_of_le_of_lt (Nat.min_le_left _ _) (small1000 (by omega))
      · refine ⟨fun b o e => ?_, by rw [upd_ne ncD]; exact hq, ?_⟩
        · rw [upd_ne (ne_of_none e nD0)]
          exact s2 _ _ e
        · rw [upd_same, List.take_add_one, hz, List.map_append, List.map_append]
          rfl
    · rintro H2 ⟨s2, hq, hD⟩
      rw [List.length_map, List.take_length] at hD
      refine ⟨_, rfl, a, _, rfl, .inl (s2.seq hS), _, _, rfl, rfl, (by show 4 ≤ sizeLine; decide), fun r nr => ?_⟩
      have nDr : D ≠ r := ne_of_none hD nr
      refine k r D _ (s2.trans (Same.upd nr)) (s2.free nr) nD0 ⟨ns.map fun z => if z < 0 then -z else z, 0, 0, _, upd_same, by rw [upd_ne nDr]; exact hD, nDr, by omega, by omega, ?_, ?_, ?_, ?_⟩
      · rw [List.length_map]; omega
      · rw [List.length_map]; omega
      · rw [List.length_map]; exact hl
      · intro c hc
        obtain ⟨z, _, rfl⟩ := List.mem_map.mp hc
        show (0 : Int) ≤ if z < 0 then -z else z
        split <;> omega
theorem scDr : FnScope ["feed", "limit", "cells", "cell", "found"] ["feed", "limit"] (defScope sDraw) := ⟨rfl, rfl, rfl, by decide +kernel, rfl, by decide +kernel, by decide +kernel⟩
theorem ok_draw {f : Addr} {fd : FuncData} (F : Fun K "_law_draw" "_law_draw" sDraw f fd) (T : TxtL mg) : FnOk P w K mg base CX0 1 f fd ["feed", "limit"] spDraw := by
  refine F.ok scDr (fun vs H Q E h => ?_) (fun cdv A outer s H vs Q E hr h => ?_)
  · obtain ⟨a, cl, m, rfl, _⟩ := h
    rfl
  · obtain ⟨a, cl, m, rfl, ⟨cs, i, p, s, f0⟩, hm, hm2, k⟩ := h
    refine ⟨_, pss_cons (ps_set (i := 2) scDr.nd rfl (.inl rfl) (pe_ix ix_list (pv 0) pe_int (fun _ _ => rfl)))
      (C8.pss_cut (ps_if (PW.pt (pw_and (pt_cmpR op_eq (pe_ix ix_list (pv 0) pe_int (fun _ _ => rfl)) pe_int (nomark _)) (pw_and1 (pt_cmpR op_lt (pe_ix ix_list (pv 0) pe_int (fun _ _ => rfl)) (pe_callB call_len_seq (by rfl) T.len PySem.boot_len (pa_cons (pv 2) pa_nil)) (nomark _)))))
        (pss_cons (ps_set (i := 3) scDr.nd rfl (.inl rfl) (pe_ix ix_list (pv 2) (pe_ix ix_list (pv 0) pe_int (fun _ _ => rfl)) (fun _ _ => rfl)))
        (pss_cons (ps_asg (pe_op op_add (pe_ix ix_list (pv 0) pe_int (fun _ _ => rfl)) pe_int) (pg_sub (pv 0) pe_int set_list))
        (pss_one (ps_if (pt_cmpR op_ge (pv 3) (pe_op op_pow pe_int pe_int) (nomark _))
          (pss_one (ps_asg (pv 3) (pg_sub (pv 0) pe_int set_list)))
          (pss_one (ps_asg (pe_op op_mod (pe_callTy call_int1 (by rfl) T.int (by decide +kernel) (pa_cons (pe_op op_add (pe_op op_add (pe_op op_mul (pe_ix ix_list (pv 0) pe_int (fun _ _ => rfl)) pe_int) (pe_op op_mul (pv 3) pe_int)) pe_int) pa_nil)) pe_int) (pg_sub (pv 0) pe_int set_list)))))))
        pss_nil)
      (C8.pss_cut (ps_if (pt_cmpR op_gt (pe_ix ix_list (pv 0) pe_int (fun _ _ => rfl)) pe_int (nomark _))
        (pss_cons (ps_set (i := 4) scDr.nd rfl (.inl rfl) (pe_op op_mod (pe_callTy call_int1 (by rfl) T.int (by decide +kernel) (pa_cons (pe_ix ix_list (pv 0) pe_int (fun _ _ => rfl)) pa_nil)) (pv 1)))
        (pss_cons (ps_asg (pe_op op_fdiv (pe_ix ix_list (pv 0) pe_int (fun _ _ => rfl)) (pv 1)) (pg_sub (pv 0) pe_int set_list))
        (pss_one (ps_ret (pv 4)))))
        pss_nil)
      (pss_cons (ps_asg (pe_op op_mod (pe_callTy call_int1 (by rfl) T.int (by decide +kernel) (pa_cons (pe_op op_add (pe_op op_mul (pe_ix ix_list (pv 0) pe_int (fun _ _ => rfl)) pe_int) pe_int) pa_nil)) pe_int) (pg_sub (pv 0) pe_int set_list))
      (pss_one (ps_ret (pe_op op_mod (pe_callTy call_int1 (by rfl) T.int (by decide +kernel) (pa_cons (pe_op op_add (pe_op op_fdiv (pe_op op_mul (pe_ix ix_list (pv 0) pe_int (fun _ _ => rfl)) (pe_ix ix_list (pv 0) pe_int (fun _ _ => rfl))) pe_int) (pe_op op_fdiv (pe_ix ix_list (pv 0) pe_int (fun _ _ => rfl)) pe_int)) pa_nil)) (pv 1))))))), ?_⟩
    -- cells = feed[0]
    refine ⟨_, rfl, a, _, 0, _, rfl, rfl, SqL.of f0.hA, rfl, ?_⟩
    -- behind the first if: the feed again
    refine ⟨fun σ' H' => ∃ x2 x3 x4, σ' = [some (.ref a), some (.int m), x2, x3, x4] ∧ FeedAt H' a cl ∧ But a H H', ?_, ?_⟩
    · refine ⟨_, rfl, a, _, 2, _, rfl, rfl, SqL.of f0.hA, rfl, rfl, _, rfl, ?_⟩
      refine ite2 (fun _ => ?_) (fun _ => ?_)
      · refine ⟨_, rfl, a, _, 1, _, rfl, rfl, SqL.of f0.hA, rfl, _, rfl, cl, _, rfl, .inl (SqL.of f0.hC), _, _, rfl, rfl, _, rfl, ?_⟩
        refine ite2 (fun z => ?_) (fun _ => ?_)
        · have z := of_decide_eq_true z
          rw [List.length_map] at z
          have hi : (i.toNat : Int) = i := Int.toNat_of_nonneg f0.i0
          have hlt : i.toNat < cs.length := by omega
          have hc : (cs.map V.int)[i.toNat]? = some (V.int cs[i.toNat]) := by
            rw [List.getElem?_map, List.getElem?_eq_getElem hlt]
            rfl
          have c0 : 0 ≤ cs[i.toNat] := f0.nn _ (List.getElem_mem hlt)
          generalize hcv : cs[i.toNat] = cv at hc c0
          have f1 := f0.put (i' := i + 1) (by have := f0.i0; omega) f0.p0 f0.s0 f0.s1
          refine ⟨_, rfl, _, rfl, a, _, 1, _, rfl, rfl, SqL.of f0.hA, rfl, cl, _, i, _, rfl, rfl, SqL.of f0.hC, at_of hi.symm hc, ?_⟩
          refine ⟨_, rfl, a, _, 1, _, rfl, rfl, SqL.of f0.hA, rfl, _, _, rfl, rfl, _, rfl, a, _, _, 1, rfl, rfl, f0.hA, rfl, ?_⟩
          refine ⟨_, rfl, _, _, rfl, rfl, (by show (0 : Int) ≤ 18 ∧ (18 : Int) ≤ 1000000 ∧ (10 : Int).natAbs < 2 ^ 64; decide), _, _, rfl, rfl, _, rfl, ?_⟩
          refine ite2 (fun _ => ?_) (fun _ => ?_)
          · refine ⟨_, rfl, _, rfl, a, _, _, 2, rfl, rfl, upd_same, rfl, ?_⟩
            exact ⟨_, _, _, rfl, ⟨cs, _, _, _, f1.put (i' := i + 1) (p' := cv) (s' := s) (by have := f0.i0; omega) c0 f0.s0 f0.s1⟩, (But.upd a H _).trans (But.upd a _ _)⟩
          · refine ⟨_, rfl, a, _, 3, _, rfl, rfl, SqL.of upd_same, rfl, _, _, rfl, rfl, .inr (by decide), _, rfl, _, _, rfl, rfl, .inr (by decide), _, _, rfl, rfl, _, _, rfl, rfl, .inl ⟨_, rfl, _, _, rfl, rfl, (by show (0 : Int) < 2147483647; decide), _, rfl, a, _, _, 3, rfl, rfl, upd_same, rfl, ?_⟩⟩
            refine ⟨_, _, _, rfl, ⟨cs, _, _, _, f1.put (i' := i + 1) (p' := p) (by have := f0.i0; omega) f0.p0 (Int.emod_nonneg _ (by decide)) (Int.lt_trans (Int.emod_lt_of_pos _ (by decide)) (by decide))⟩, (But.upd a H _).trans (But.upd a _ _)⟩
        · exact ⟨_, _, _, rfl, ⟨cs, i, p, s, f0⟩, But.refl a H⟩
      · exact ⟨_, _, _, rfl, ⟨cs, i, p, s, f0⟩, But.refl a H⟩
    · rintro σ' H1 ⟨x2, x3, x4, rfl, ⟨cs, i, p, s, f1⟩, b1⟩
      refine ⟨fun σ' H' => ∃ x2 x3 x4, σ' = [some (.ref a), some (.int m), x2, x3, x4] ∧ FeedAt H' a cl ∧ But a H H', ?_, ?_⟩
      · refine ⟨_, rfl, a, _, 2, _, rfl, rfl, SqL.of f1.hA, rfl, _, _, rfl, rfl, _, rfl, ?_⟩
        refine ite2 (fun z => ?_) (fun _ => ?_)
        · refine ⟨_, rfl, a, _, 2, _, rfl, rfl, SqL.of f1.hA, rfl, .inl ⟨_, rfl, _, rfl, _, _, rfl, rfl, hm, ?_⟩⟩
          refine ⟨_, rfl, a, _, 2, _, rfl, rfl, SqL.of f1.hA, rfl, _, rfl, _, _, rfl, rfl, ⟨hm, hm2⟩, _, rfl, a, _, _, 2, rfl, rfl, f1.hA, rfl, ?_⟩
          refine ⟨_, rfl, ?_⟩
          exact k _ _ (Int.emod_nonneg _ (by omega)) (Int.emod_lt_of_pos _ hm) ⟨cs, _, _, _, f1.put (i' := i) (s' := s) f1.i0 (Int.ediv_nonneg f1.p0 (by omega)) f1.s0 f1.s1⟩ (b1.trans (But.upd a _ _))
        · exact ⟨_, _, _, rfl, ⟨cs, i, p, s, f1⟩, b1⟩
      · rintro σ' H2 ⟨x2, x3, x4, rfl, ⟨cs, i, p, s, f2⟩, b2⟩
        refine ⟨_, rfl, a, _, 3, _, rfl, rfl, SqL.of f2.hA, rfl, _, _, rfl, rfl, .inr (by decide), _, _, rfl, rfl, .inl ⟨_, rfl, _, _, rfl, rfl, (by show (0 : Int) < 2147483629; decide), _, rfl, a, _, _, 3, rfl, rfl, f2.hA, rfl, ?_⟩⟩
        have e0 := Int.emod_nonneg (s * 16807 + 12345) (show (2147483629 : Int) ≠ 0 by decide)
        have e1 := Int.emod_lt_of_pos (s * 16807 + 12345) (show (0 : Int) < 2147483629 by decide)
        have f3 := f2.put (i' := i) (p' := p) (s' := (s * 16807 + 12345) % 2147483629) f2.i0 f2.p0 e0 (by omega)
        refine ⟨_, rfl, a, _, 3, _, rfl, rfl, SqL.of upd_same, rfl, _, rfl, a, _, 3, _, rfl, rfl, SqL.of upd_same, rfl, _, _, rfl, rfl, .inl ⟨by omega, by omega⟩, _, _, rfl, rfl, ⟨by decide, by decide⟩,
          _, rfl, a, _, 3, _, rfl, rfl, SqL.of upd_same, rfl, _, _, rfl, rfl, ⟨by decide, by decide⟩, _, _, rfl, rfl, .inl ⟨_, rfl, _, rfl, _, _, rfl, rfl, hm, ?_⟩⟩
        exact k _ _ (Int.emod_nonneg _ (by omega)) (Int.emod_lt_of_pos _ hm) ⟨cs, _, _, _, f3⟩ (b2.trans (But.upd a _ _))
end
end RX

set_option Elab.async false
set_option maxRecDepth 100000
namespace RX
open PySem L2
abbrev sPair : Stmt := topS 21
/-- a pair of ints stands at p -/
def PairAt (H : Hp) (p : Addr) (n d : Int) : Prop := H p = some (.tup [.int n, .int d])
theorem PairAt.same {H H' : Hp} {p : Addr} {n d : Int} (h : PairAt H p n d) (s : Same H H') : PairAt H' p n d := s _ _ h
theorem PairAt.t {K : PySem.W.Frag} {H : Hp} {p : Addr} {n d : Int} (h : PairAt H p n d) : SqT K H p [.int n, .int d] := SqT.of h
def spPair : Sp := fun vs H Q _ => ∃ (t b : Int), vs = [.int t, .int b] ∧ b ≠ 0 ∧ Md b ∧ ∀ (r : Addr) (H' : Hp), Same H H' → H r = none → PairAt H' r (RT.top t b) (RT.bot t b) → Q (.ref r) H'
theorem But.free {a cl : Addr} {H H1 : Hp} {r : Addr} (x : But a H H1) (h : H1 r = none) (f : FeedAt H1 a cl) : H r = none := by
  cases q : H r with
  | none => rfl
  | some o =>
    by_cases e : r = a
    · subst e
      obtain ⟨cs, i, p, s, f⟩ := f
      rw [f.hA] at h
      cases h
    · rw [x r o q e] at h
      cases h
/-- a def of the law that is called by its name -/
structure CalN (P : Program) (w : World) (K : PySem.W.Frag) (mg : Str → Option Value) (base : Heap) (x : Str) (k : Nat) (ps : List Str) (sp : Sp) (f : Addr) (fd : FuncData) : Prop where
  G : FnOk P w K mg base CX0 k f fd ps sp
  m : mg x = some (.ref f)
  kp : PySem.W.keepIn K (.ref f) = true
  b : Binds K fd ps []
/-- of at most 500 bits -/
def Ti (x : Int) : Prop := x.natAbs < 2 ^ 500
theorem pw {a b : Nat} (h : a ≤ b) {x : Nat} (hx : x < 2 ^ a) : x < 2 ^ b := Nat.lt_of_lt_of_le hx (Nat.pow_le_pow_right (by decide) h)
theorem mulB {x y : Int} {a b : Nat} (ha : x.natAbs < 2 ^ a) (hb : y.natAbs < 2 ^ b) : (x * y).natAbs < 2 ^ (a + b) := wide_lt ha hb
theorem addB {x y : Int} {a : Nat} (ha : x.natAbs < 2 ^ a) (hb : y.natAbs < 2 ^ a) : (x + y).natAbs < 2 ^ (a + 1) := by
  have := Int.natAbs_add_le x y
  rw [Nat.pow_succ]
  omega
theorem topB {t b : Int} {a : Nat} (h : b ≠ 0) (ha : t.natAbs < 2 ^ a) : (RT.top t b).natAbs < 2 ^ a := Nat.lt_of_le_of_lt (RT.top_le h) ha
theorem botB {t b : Int} {a : Nat} (h : b ≠ 0) (ha : b.natAbs < 2 ^ a) : (RT.bot t b).natAbs < 2 ^ a := Nat.lt_of_le_of_lt (RT.bot_le h) ha
theorem botN {t b : Int} (h : b ≠ 0) : RT.bot t b ≠ 0 := by have := RT.bot_pos (t := t) h; omega
section
variable {P : Program} {w : World} {K : PySem.W.Frag} {mg : Str → Option Value} {base : Heap}
theorem scG : FnScope ["feed", "parts", "found", "k"] ["feed", "parts"] (defScope sGreat) := ⟨rfl, rfl, rfl, by decide +kernel, rfl, by decide +kernel, by decide +kernel⟩
theorem ok_great {f fD : Addr} {fd fdD : FuncData} (F : Fun K "_law_great" "_law_great" sGreat f fd) (T : TxtL mg) (GD : FnOk P w K mg base CX0 1 fD fdD ["feed", "limit"] spDraw) (mD : mg "_law_draw" = some (.ref fD)) (kD : PySem.W.keepIn K (.ref fD) = true) (bD : Binds K fdD ["feed", "limit"] []) :
    FnOk P w K mg base CX0 2 f fd ["feed", "parts"] spGreat := by
  refine F.ok scG (fun vs H Q E h => ?_) (fun cdv A outer s H vs Q E hr h => ?_)
  · obtain ⟨a, cl, m, rfl, _⟩ := h
    rfl
  · obtain ⟨a, cl, m, rfl, hF, h0, h1, k⟩ := h
    refine ⟨_, pss_cons (ps_set (i := 2) scG.nd rfl (.inl rfl) pe_int)
      (pss_cons (ps_for PassesOwn.never rfl (pi_range1 rfl T.range (pa_cons (pv 1) pa_nil)) (pg_name (i := 3) scG.nd rfl (.inl rfl))
        (pss_one (ps_set (i := 2) scG.nd rfl (.inl rfl) (pe_op op_add (pe_op op_mul (pv 2) pe_int) (pe_call GD hr rfl mD kD bD .nil pass0 (pa_cons (pv 0) (pa_cons pe_int pa_nil)))))))
      (pss_one (ps_ret (pv 2)))), ?_⟩
    refine ⟨_, rfl, m, rfl, by omega, by omega, for_range (n := m.toNat) (fun i σ H' => ∃ (x : Int) (y : Option V), σ = [some (.ref a), some (.int m), some (.int x), y] ∧ 0 ≤ x ∧ x < 100000 ^ i ∧ FeedAt H' a cl ∧ But a H H')
      ⟨0, none, rfl, by omega, by decide, hF, But.refl a H⟩ ?_ ?_⟩
    · rintro i σ H' hi ⟨x, y, rfl, x0, x1, f1, b1⟩
      refine ⟨_, rfl, _, _, rfl, rfl, .inr (by decide), _, rfl, a, cl, _, rfl, f1, by decide, by decide, fun r H2 r0 r1 f2 b2 => ?_⟩
      refine ⟨_, _, rfl, rfl, _, _, rfl, by omega, ?_, f2, b1.trans b2⟩
      rw [Int.pow_succ]
      omega
    · rintro σ H' ⟨x, y, rfl, x0, x1, f1, b1⟩
      exact ⟨_, rfl, k x H' x0 x1 f1 b1⟩
theorem scP : FnScope ["above", "below", "one", "two"] ["above", "below"] (defScope sPair) := ⟨rfl, rfl, rfl, by decide +kernel, rfl, by decide +kernel, by decide +kernel⟩
theorem ok_pair {f : Addr} {fd : FuncData} (F : Fun K "_law_pair" "_law_pair" sPair f fd) (T : TxtL mg) : FnOk P w K mg base CX0 1 f fd ["above", "below"] spPair := by
  refine F.ok scP (fun vs H Q E h => ?_) (fun cdv A outer s H vs Q E hr h => ?_)
  · obtain ⟨t, b, rfl, _⟩ := h
    rfl
  · obtain ⟨t, b, rfl, hb, hz, k⟩ := h
    refine ⟨_, pss_cons (ps_set (i := 2) scP.nd rfl (.inl rfl) (pe_callB call_abs (by rfl) T.abs (by decide +kernel) (pa_cons (pv 0) pa_nil)))
      (pss_cons (ps_set (i := 3) scP.nd rfl (.inl rfl) (pe_callB call_abs (by rfl) T.abs (by decide +kernel) (pa_cons (pv 1) pa_nil)))
      (pss_cons (ps_while PassesOwn.never (pt_cmpR op_gt (pv 3) pe_int (nomark _))
        (pss_one (ps_par (i := 2) (j := 3) (by rfl) scP.nd rfl rfl (by decide) rfl rfl (pa_cons (pv 3) (pa_cons (pe_op op_mod (pe_callTy call_int1 (by rfl) T.int (by decide +kernel) (pa_cons (pv 2) pa_nil)) (pv 3)) pa_nil)) (by rfl))))
      (C8.pss_cut (ps_if (pt_cmpR op_lt (pv 1) pe_int (nomark _)) (pss_one (ps_set (i := 2) scP.nd rfl (.inl rfl) (pe_op op_sub pe_int (pv 2)))) pss_nil)
      (pss_one (ps_ret (pe_tup (pa_cons (pe_op op_fdivZ (pv 0) (pv 2)) (pa_cons (pe_op op_fdivZ (pv 1) (pv 2)) pa_nil)))))))), ?_⟩
    refine ⟨_, rfl, t, rfl, _, rfl, b, rfl, ?_⟩
    have ab : ∀ x : Int, 0 ≤ (if x < 0 then -x else x) ∧ (if x < 0 then -x else x).natAbs = x.natAbs := fun x => by split <;> omega
    refine while_by (fun σ H' => ∃ x y : Int, σ = [some (.int t), some (.int b), some (.int x), some (.int y)] ∧ H' = H ∧ 0 ≤ x ∧ 0 ≤ y ∧ Nat.gcd x.natAbs y.natAbs = Nat.gcd t.natAbs b.natAbs)
      (fun σ _ => match σ with | [_, _, _, some (.int y)] => y.toNat | _ => 0)
      ⟨_, _, rfl, rfl, (ab t).1, (ab b).1, by rw [(ab t).2, (ab b).2]⟩ ?_ (fun σ H' R R' h q => by
        obtain ⟨v, hv, i, j, e1, e2, kk, e3, q⟩ := q
        exact ⟨v, hv, i, j, e1, e2, kk, e3, h _ _ q⟩)
    rintro σ H' ⟨x, y, rfl, rfl, x0, y0, g⟩
    refine ⟨_, rfl, _, _, rfl, rfl, _, rfl, ?_⟩
    refine ite2 (fun z => ?_) (fun z => ?_)
    · have z := of_decide_eq_true z
      refine ⟨_, rfl, _, rfl, .inl ⟨_, rfl, _, rfl, _, _, rfl, rfl, z, ?_⟩⟩
      have m0 := Int.emod_nonneg x (show y ≠ 0 by omega)
      have m1 := Int.emod_lt_of_pos x z
      refine ⟨_, _, rfl, ⟨_, _, rfl, rfl, y0, m0, ?_⟩, ?_⟩
      · rw [Nat.gcd_comm, ← g]
        have : (x % y).natAbs = x.natAbs % y.natAbs := by
          rw [Int.natAbs_emod_of_nonneg x0]
        rw [this, Nat.gcd_comm x.natAbs, Nat.gcd_rec y.natAbs x.natAbs]
      · show (x % y).toNat < y.toNat
        omega
    · have z : ¬ y > 0 := fun h => z (decide_eq_true h)
      have y00 : y = 0 := by omega
      subst y00
      have hg : x = RT.gg t b := by
        unfold RT.gg
        rw [← g]
        show x = ((Nat.gcd x.natAbs 0 : Nat) : Int)
        rw [Nat.gcd_zero_right]
        omega
      refine ⟨fun σ' H2 => σ' = [some (.int t), some (.int b), some (.int (RT.byv t b)), some (.int 0)] ∧ H2 = H', ?_, ?_⟩
      · refine ⟨_, rfl, _, _, rfl, rfl, _, rfl, ?_⟩
        refine ite2 (fun z => ?_) (fun z => ?_)
        · have z := of_decide_eq_true z
          refine ⟨_, rfl, _, _, rfl, rfl, ?_, rfl⟩
          have e : (0 : Int) - x = RT.byv t b := by
            unfold RT.byv
            rw [if_neg (by omega), hg]
            omega
          show [some (V.int t), some (V.int b), some (V.int (0 - x)), some (V.int 0)] = _
          rw [e]
        · have z : ¬ b < 0 := fun h => z (decide_eq_true h)
          refine ⟨?_, rfl⟩
          have e : x = RT.byv t b := by
            unfold RT.byv
            rw [if_pos (by omega), hg]
          rw [e]
      · rintro σ' H' ⟨rfl, rfl⟩
        have hdiv : ∀ x : Int, CDivZ x (RT.byv t b) := fun x => divZ (RT.byv_ne hb) (Nat.lt_of_le_of_lt (RT.byv_le hb) hz) (by decide) (by decide)
        refine ⟨_, rfl, _, rfl, _, _, rfl, rfl, hdiv t, _, rfl, _, rfl, _, _, rfl, rfl, hdiv b, (by show 2 ≤ sizeLine; decide), fun r nr => ?_⟩
        exact k r _ (Same.upd nr) nr upd_same
end
end RX

set_option Elab.async false
set_option maxRecDepth 100000
namespace RX
open PySem L2
abbrev sIsInt : Stmt := topS 24
abbrev sSame : Stmt := topS 25
def spIsInt : Sp := fun vs H Q _ => ∃ n : Int, vs = [.int n] ∧ Q (.bl true) H
/-- a Ratio and a pair that are the same -/
def spSame (C : Addr) : Sp := fun vs H Q _ => ∃ (p q : Addr) (n d : Int), vs = [.ref p, .ref q] ∧ RatAt C H p n d ∧ PairAt H q n d ∧ Q (.bl true) H
section
variable {P : Program} {w : World} {K : PySem.W.Frag} {mg : Str → Option Value} {base : Heap}
theorem scIs : FnScope ["actual"] ["actual"] (defScope sIsInt) := ⟨rfl, rfl, rfl, by decide +kernel, rfl, by decide +kernel, by decide +kernel⟩
theorem ok_isInt {f : Addr} {fd : FuncData} (F : Fun K "_law_is_integer" "_law_is_integer" sIsInt f fd) (T : TxtL mg) : FnOk P w K mg base CX0 1 f fd ["actual"] spIsInt := by
  refine F.ok scIs (fun vs H Q E h => ?_) (fun cdv A outer s H vs Q E hr h => ?_)
  · obtain ⟨n, rfl, _⟩ := h
    rfl
  · obtain ⟨n, rfl, k⟩ := h
    refine ⟨_, pss_one (ps_ret (pe_and (pe_callB call_isi (by rfl) T.isi (by decide +kernel) (pa_cons (pv 0) (pa_cons (pe_bltn (v := .ty "int") (by rfl) T.int (by decide +kernel) rfl) pa_nil)))
      (pe_one (pe_not (pe_callB call_isi (by rfl) T.isi (by decide +kernel) (pa_cons (pv 0) (pa_cons (pe_bltn (v := .ty "bool") (by rfl) T.bool (by decide +kernel) rfl) pa_nil))))))), ?_⟩
    refine ⟨_, rfl, _, _, _, _, true, rfl, .ty _, .base (.int n), kit_ty (by decide +kernel), true, rfl, ?_⟩
    refine iteT ?_
    exact ⟨_, rfl, _, _, _, _, false, rfl, .ty _, .base (.int n), kit_ty (by decide +kernel), false, rfl, k⟩
theorem scSa : FnScope ["actual", "due"] ["actual", "due"] (defScope sSame) := ⟨rfl, rfl, rfl, by decide +kernel, rfl, by decide +kernel, by decide +kernel⟩
theorem ok_same {f fI C : Addr} {fd fdI : FuncData} (F : Fun K "_law_same" "_law_same" sSame f fd) (T : TxtL mg) (R : TxtR K mg C) (c : C8.InsC K C) (GI : FnOk P w K mg base CX0 1 fI fdI ["actual"] spIsInt) (mI : mg "_law_is_integer" = some (.ref fI)) (kI : PySem.W.keepIn K (.ref fI) = true) (bI : Binds K fdI ["actual"] []) :
    FnOk P w K mg base CX0 2 f fd ["actual", "due"] (spSame C) := by
  refine F.ok scSa (fun vs H Q E h => ?_) (fun cdv A outer s H vs Q E hr h => ?_)
  · obtain ⟨p, q, n, d, rfl, _⟩ := h
    rfl
  · obtain ⟨p, q, n, d, rfl, ⟨dx, hp⟩, hq, k⟩ := h
    refine ⟨_, pss_cons (ps_if (pt_not (pt_val (pe_callB (C8.call_isC c) (by rfl) T.isi (by decide +kernel) (pa_cons (pv 0) (pa_cons (pe_glob (v := .ref C) (by rfl) R.mgC rfl) pa_nil))))) (pss_one ps_never) pss_nil)
      (pss_cons (ps_if (PW.pt (pw_or (pt_not (pt_val (pe_call GI hr rfl mI kI bI .nil pass0 (pa_cons (pe_fld (pv 0) rfl) pa_nil)))) (pw_or1 (pt_not (pt_val (pe_call GI hr rfl mI kI bI .nil pass0 (pa_cons (pe_fld (pv 0) rfl) pa_nil)))))))
        (pss_one ps_never) pss_nil)
      (pss_one (ps_ret (pe_and (pe_cmpR op_eq (pe_fld (pv 0) rfl) (pe_ix ix_tup (pv 1) pe_int (fun _ _ => rfl)) (nomark _)) (pe_one (pe_cmpR op_eq (pe_fld (pv 0) rfl) (pe_ix ix_tup (pv 1) pe_int (fun _ _ => rfl)) (nomark _))))))), ?_⟩
    refine ⟨_, rfl, p, dx, _, rfl, hp, true, rfl, ?_⟩
    refine iteF ?_
    refine ⟨_, rfl, p, C, dx, _, _, rfl, hp, R.cl, R.nT, rf_top _ _, n, rfl, true, rfl, ?_⟩
    refine iteF ?_
    refine ⟨_, rfl, p, C, dx, _, _, rfl, hp, R.cl, R.nB, rf_bot _ _, d, rfl, true, rfl, ?_⟩
    refine iteF ?_
    refine ⟨_, rfl, p, C, dx, _, _, rfl, hp, R.cl, R.nT, rf_top _ _, _, rfl, q, _, 0, _, rfl, rfl, hq.t, rfl, rfl, true, (by rw [decide_eq_true rfl]), ?_⟩
    refine iteT ?_
    refine ⟨_, rfl, p, C, dx, _, _, rfl, hp, R.cl, R.nB, rf_bot _ _, _, rfl, q, _, 1, _, rfl, rfl, hq.t, rfl, rfl, ?_⟩
    show Q (V.bl (decide (V.int d = V.int d))) H
    rw [decide_eq_true rfl]
    exact k
end
end RX

set_option Elab.async false
set_option maxRecDepth 100000
namespace RX
open PySem L2
theorem map_range_ext {α : Type} {i : Nat} {f g : Nat → α} (h : ∀ j, j < i → f j = g j) : (List.range i).map f = (List.range i).map g :=
  List.map_congr_left fun j hj => h j (List.mem_range.mp hj)
/-- one more at the end -/
def ext {α : Type} (f : Nat → α) (i : Nat) (x : α) : Nat → α := fun j => if j = i then x else f j
theorem ext_same {α : Type} (f : Nat → α) (i : Nat) (x : α) : ext f i x i = x := if_pos rfl
theorem ext_lt {α : Type} (f : Nat → α) {i j : Nat} (x : α) (h : j < i) : ext f i x j = f j := if_neg (by omega)
theorem map_ext {α : Type} (f : Nat → α) (i : Nat) (x : α) : (List.range (i + 1)).map (ext f i x) = (List.range i).map f ++ [x] := by
  rw [List.range_succ, List.map_append]
  rw [map_range_ext (f := ext f i x) (g := f) fun j h => ext_lt f x h]
  show _ ++ [ext f i x i] = _
  rw [ext_same]
theorem FeedAt.lst {H : Hp} {a cl : Addr} (h : FeedAt H a cl) : ∃ xs, H a = some (.lst xs) := let ⟨_, _, _, _, f⟩ := h; ⟨_, f.hA⟩
theorem FeedAt.lst2 {H : Hp} {a cl : Addr} (h : FeedAt H a cl) : ∃ xs, H cl = some (.lst xs) := let ⟨_, _, _, _, f⟩ := h; ⟨_, f.hC⟩
theorem FeedAt.other {H : Hp} {a cl r : Addr} {o : HO} (h : FeedAt H a cl) (h1 : r ≠ a) (h2 : r ≠ cl) : FeedAt (upd H r o) a cl :=
  let ⟨cs, i, p, s, f⟩ := h
  ⟨cs, i, p, s, by rw [upd_ne h1.symm]; exact f.hA, by rw [upd_ne h2.symm]; exact f.hC, f.ne, f.i0, f.p0, f.s0, f.s1, f.len, f.nn⟩
theorem PairAt.ne {H : Hp} {q R : Addr} {n d : Int} {xs : List V} (h : PairAt H q n d) (h2 : H R = some (.lst xs)) : q ≠ R := ne_of h h2 (by intro z; cases z)
theorem PairAt.other {H : Hp} {q R : Addr} {n d : Int} {o : HO} (h : PairAt H q n d) (ne : q ≠ R) : PairAt (upd H R o) q n d := by
  show upd H R o q = _
  rw [upd_ne ne]
  exact h
theorem PairAt.but {H H' : Hp} {a q : Addr} {n d : Int} (h : PairAt H q n d) (x : But a H H') (ne : q ≠ a) : PairAt H' q n d := x _ _ h ne
theorem RatAt.other {C : Addr} {H : Hp} {q R : Addr} {n d : Int} {o : HO} (h : RatAt C H q n d) (ne : q ≠ R) : RatAt C (upd H R o) q n d := by
  obtain ⟨dx, h⟩ := h
  exact ⟨dx, by rw [upd_ne ne]; exact h⟩
theorem ex1 (x : Int) : V.bl (decide (V.int x = V.int x)) = V.bl true := by rw [decide_eq_true rfl]
end RX

set_option Elab.async false
set_option maxRecDepth 100000
namespace RX
open PySem L2
/-! ### rows, tables, what comprehensions build -/
/-- k of them, one after another -/
def refs (k : Nat) (a : Nat → Addr) : List V := (List.range k).map fun i => V.ref (a i)
theorem refs_len (k : Nat) (a : Nat → Addr) : (refs k a).length = k := by unfold refs; rw [List.length_map, List.length_range]
theorem refs_get {k : Nat} {a : Nat → Addr} {i : Nat} (h : i < k) : (refs k a)[i]? = some (.ref (a i)) := by
  unfold refs
  rw [List.getElem?_map, List.getElem?_range h]
  rfl
theorem refs_lt {k : Nat} {a : Nat → Addr} {i : Nat} {x : V} (h : (refs k a)[i]? = some x) : i < k ∧ x = .ref (a i) := by
  have hi : i < k := by
    have := (List.getElem?_eq_some_iff.mp h).1
    rw [refs_len] at this
    exact this
  rw [refs_get hi] at h
  exact ⟨hi, (Option.some.inj h).symm⟩
/-- a tuple of Ratios -/
structure RowAt (C : Addr) (H : Hp) (p : Addr) (k : Nat) (a : Nat → Addr) (n d : Nat → Int) : Prop where
  hp : H p = some (.tup (refs k a))
  r : ∀ i, i < k → RatAt C H (a i) (n i) (d i)
theorem RowAt.same {C : Addr} {H H' : Hp} {p : Addr} {k : Nat} {a : Nat → Addr} {n d : Nat → Int} (h : RowAt C H p k a n d) (s : Same H H') : RowAt C H' p k a n d := ⟨s _ _ h.hp, fun i hi => (h.r i hi).same s⟩
theorem refs_ext (S : Nat → Addr) (i : Nat) (x : Addr) : refs (i + 1) (ext S i x) = refs i S ++ [.ref x] := by
  unfold refs
  rw [List.range_succ, List.map_append]
  rw [map_range_ext (f := fun j => V.ref (ext S i x j)) (g := fun j => V.ref (S j)) fun j h => by rw [ext_lt S x h]]
  show _ ++ [V.ref (ext S i x i)] = _
  rw [ext_same]
/-- a property of an address that stays -/
structure Stays (Pr : Hp → Nat → Addr → Prop) : Prop where
  s : ∀ {H H' : Hp} {j : Nat} {x : Addr}, Same H H' → Pr H j x → Pr H' j x
  u : ∀ {H : Hp} {j : Nat} {x D : Addr} {xs ys : List V}, H D = some (.lst xs) → Pr H j x → Pr (upd H D (.lst ys)) j x
structure Built (Pr : Hp → Nat → Addr → Prop) (H : Hp) (D : Addr) (i : Nat) (S : Nat → Addr) (H2 : Hp) : Prop where
  hD : H2 D = some (.lst (refs i S))
  pr : ∀ j, j < i → Pr H2 j (S j)
  s : Same H H2
theorem built0 {Pr : Hp → Nat → Addr → Prop} {H : Hp} {D : Addr} (nD : H D = none) : Built Pr H D 0 (fun _ => D) (upd H D (.lst [])) :=
  ⟨upd_same, fun _ h => absurd h (by omega), Same.upd nD⟩
theorem Built.step {Pr : Hp → Nat → Addr → Prop} {H H2 H3 : Hp} {D x : Addr} {i : Nat} {S : Nat → Addr} (B : Built Pr H D i S H2) (st : Stays Pr) (nD : H D = none) (s : Same H2 H3) (p : Pr H3 i x) :
    Built Pr H D (i + 1) (ext S i x) (upd H3 D (.lst (refs i S ++ [.ref x]))) := by
  have h3 := s _ _ B.hD
  refine ⟨by rw [upd_same, refs_ext], fun j hj => ?_, fun b o e => by rw [upd_ne (ne_of_none e nD)]; exact s _ _ (B.s _ _ e)⟩
  refine st.u h3 ?_
  by_cases e : j = i
  · subst e; rw [ext_same]; exact p
  · rw [ext_lt S x (by omega)]
    exact st.s s (B.pr j (by omega))
theorem RatAt.ne {C : Addr} {H : Hp} {p D : Addr} {n d : Int} {xs : List V} (h : RatAt C H p n d) (h2 : H D = some (.lst xs)) : p ≠ D := by
  obtain ⟨dx, h⟩ := h
  exact ne_of h h2 (by intro z; cases z)
theorem RowAt.updL {C : Addr} {H : Hp} {p D : Addr} {k : Nat} {a : Nat → Addr} {n d : Nat → Int} {xs ys : List V} (h : RowAt C H p k a n d) (h2 : H D = some (.lst xs)) : RowAt C (upd H D (.lst ys)) p k a n d :=
  ⟨by rw [upd_ne (ne_of h.hp h2 (by intro z; cases z))]; exact h.hp, fun i hi => (h.r i hi).other ((h.r i hi).ne h2)⟩
theorem stays_rat {C : Addr} {n d : Nat → Int} : Stays (fun H j x => RatAt C H x (n j) (d j)) := ⟨fun s h => h.same s, fun h2 h => h.other (h.ne h2)⟩
theorem stays_row {C : Addr} {k : Nat} {n d : Nat → Nat → Int} : Stays (fun H i x => ∃ a, RowAt C H x k a (n i) (d i)) := ⟨fun s ⟨a, h⟩ => ⟨a, h.same s⟩, fun h2 ⟨a, h⟩ => ⟨a, h.updL h2⟩⟩
/-- a table of Ratios -/
structure TabAt (C : Addr) (H : Hp) (p : Addr) (h w : Nat) (R : Nat → Addr) (A : Nat → Nat → Addr) (N D : Nat → Nat → Int) : Prop where
  hp : H p = some (.tup (refs h R))
  r : ∀ i, i < h → RowAt C H (R i) w (A i) (N i) (D i)
theorem TabAt.same {C : Addr} {H H' : Hp} {p : Addr} {h w : Nat} {R : Nat → Addr} {A : Nat → Nat → Addr} {N D : Nat → Nat → Int} (x : TabAt C H p h w R A N D) (s : Same H H') : TabAt C H' p h w R A N D := ⟨s _ _ x.hp, fun i hi => (x.r i hi).same s⟩
/-- a list of pairs -/
structure LineAt (H : Hp) (q : Addr) (k : Nat) (a : Nat → Addr) (n d : Nat → Int) : Prop where
  hq : H q = some (.lst (refs k a))
  p : ∀ i, i < k → PairAt H (a i) (n i) (d i)
theorem LineAt.same {H H' : Hp} {q : Addr} {k : Nat} {a : Nat → Addr} {n d : Nat → Int} (h : LineAt H q k a n d) (s : Same H H') : LineAt H' q k a n d := ⟨s _ _ h.hq, fun i hi => (h.p i hi).same s⟩
/-- a list of lists of pairs -/
structure LinesAt (H : Hp) (q : Addr) (h w : Nat) (R : Nat → Addr) (A : Nat → Nat → Addr) (N D : Nat → Nat → Int) : Prop where
  hq : H q = some (.lst (refs h R))
  r : ∀ i, i < h → LineAt H (R i) w (A i) (N i) (D i)
theorem LinesAt.same {H H' : Hp} {q : Addr} {h w : Nat} {R : Nat → Addr} {A : Nat → Nat → Addr} {N D : Nat → Nat → Int} (x : LinesAt H q h w R A N D) (s : Same H H') : LinesAt H' q h w R A N D := ⟨s _ _ x.hq, fun i hi => (x.r i hi).same s⟩
theorem Built.tab {C : Addr} {H H4 : Hp} {D : Addr} {h k : Nat} {S : Nat → Addr} {n d : Nat → Nat → Int} (B : Built (fun H i x => ∃ a, RowAt C H x k a (n i) (d i)) H D h S H4) {r : Addr} (nr : H4 r = none) :
    ∃ A, TabAt C (upd H4 r (.tup (refs h S))) r h k S A n d := by
  have s5 : Same H4 (upd H4 r (.tup (refs h S))) := Same.upd nr
  have ch : ∀ i, ∃ a, i < h → RowAt C H4 (S i) k a (n i) (d i) := fun i => by
    by_cases hi : i < h
    · obtain ⟨a, ha⟩ := B.pr i hi
      exact ⟨a, fun _ => ha⟩
    · exact ⟨fun _ => 0, fun h => absurd h hi⟩
  obtain ⟨B2, hB2⟩ := Classical.axiomOfChoice ch
  exact ⟨B2, upd_same, fun i hi => (hB2 i hi).same s5⟩
theorem LineAt.ne {H : Hp} {q F : Addr} {k : Nat} {a : Nat → Addr} {n d : Nat → Int} {xs : List V} (h : LineAt H q k a n d) (hF : H F = some (.lst xs)) : ∀ i, i < k → a i ≠ F := fun i hi => (h.p i hi).ne hF
theorem LineAt.other {H : Hp} {q F : Addr} {k : Nat} {a : Nat → Addr} {n d : Nat → Int} {xs : List V} {o : HO} (h : LineAt H q k a n d) (hF : H F = some (.lst xs)) (ne : q ≠ F) : LineAt (upd H F o) q k a n d :=
  ⟨by rw [upd_ne ne]; exact h.hq, fun i hi => (h.p i hi).other (h.ne hF i hi)⟩
theorem LineAt.but {H H' : Hp} {q F : Addr} {k : Nat} {a : Nat → Addr} {n d : Nat → Int} {xs : List V} (h : LineAt H q k a n d) (b : But F H H') (hF : H F = some (.lst xs)) (ne : q ≠ F) : LineAt H' q k a n d :=
  ⟨b _ _ h.hq ne, fun i hi => (h.p i hi).but b (h.ne hF i hi)⟩
theorem LinesAt.but {H H' : Hp} {q F : Addr} {h w : Nat} {R : Nat → Addr} {A : Nat → Nat → Addr} {N D : Nat → Nat → Int} {xs : List V} (x : LinesAt H q h w R A N D) (b : But F H H') (hF : H F = some (.lst xs)) (ne : q ≠ F) (nr : ∀ i, i < h → R i ≠ F) : LinesAt H' q h w R A N D :=
  ⟨b _ _ x.hq ne, fun i hi => (x.r i hi).but b hF (nr i hi)⟩
theorem refs_last (k : Nat) (a : Nat → Addr) : atI (refs (k + 1) a) (-1) = some (.ref (a k)) := by
  have : refs (k + 1) a = refs k a ++ [.ref (a k)] := by
    unfold refs
    rw [List.range_succ, List.map_append]
    rfl
  rw [this]
  exact atI_last _ _
def rTupO (K : PySem.W.Frag) : List V → Hp → VK → Prop := fun xs H Q => ∃ p ys, xs = [.ref p] ∧ ((SqL K H p ys ∧ ∀ l : Addr, H l = none → Q (.ref l) (upd H l (.tup ys))) ∨ SqT K H p ys ∧ Q (.ref p) H)
theorem call_tupK {X : Cx} : CallR X (.type "tuple") (rTupO X.K) := call_tuple_of
structure TxtP (mg : Str → Option Value) : Prop where
  zip : mg "zip" = none
  lcm : mg "lcm" = some (.builtin "math.lcm")
  tup : mg "tuple" = none
  list : mg "list" = none
  range : mg "range" = none
end RX

set_option Elab.async false
set_option maxRecDepth 100000
/-! // by a divisor of any size: the room that it wants, from the head on -/
namespace PL
open PySem PySem.Spec PyProof.Rows L2
/-- what // of great numbers asks of program and base -/
structure Big (P : Program) (base : Heap) : Prop where
  ns : base.NoSeer
  tr : P.given.tree = none
/-- the frame on top is a plain one -/
def Plain (X : Cx) : Prop := ∃ e l, X.stack = e :: l ∧ e.scope.isGenerator = false ∧ e.scope.isCoroutine = false ∧ e.builtins = builtinsNs ∧ e.globals = mainGlobals
theorem room {X : Cx} {pins : List (Addr × Obj)} {σ : L2.St} {H : Hp} {s : Shared} (B : Big X.prog X.base) (hr : Room 32 X.A) (hp : Plain X) (I : Inv X pins σ H s) : PylongRoom (model X.prog X.w) X.A s := by
  obtain ⟨e, l, h1, h2, h3, h4, h5⟩ := hp
  have fr := I.ok.frames
  rw [h1] at fr
  have sr : SeerAt (model X.prog X.w) X.A s.heap := SeerAt.of (B.ns.keeps I.bk) B.tr fr h2 h3 h4 h5
  refine PylongRoom.of I.nolimit ?_ sr
  have := hr.dp
  show X.A.depth + 100 < recursionLimit
  omega
theorem op_fdivP {X : Cx} (B : Big X.prog X.base) (hr : Room 32 X.A) (hp : Plain X) : OpR X (binaryOp .FloorDiv) (rI (fun _ j => j ≠ 0) fun i j => .int (i.fdiv j)) := by
  intro pins s σ H x y v u Q I rx ry ⟨i, j, ex, ey, hj, q⟩
  subst ex ey
  obtain ⟨t, rfl⟩ := rx
  obtain ⟨t', rfl⟩ := ry
  exact floordiv_int hj ⟨.int (i.fdiv j), H, I.tok _, ⟨_, rfl⟩, q⟩ (.inr (room B hr hp I))
/-- the law's call, with the room for great divisions told of the base -/
theorem big_call {P : Program} {w : World} {K : PySem.W.Frag} {mg mb : Str → Option Value} {CX : CXT} {k : Nat} {fa a : Addr} {fd : FuncData} {x : Str} {sp : Sp} {s : Shared} {us : List Value} {ns : List Int} (hS : s.heap.NoSeer)
    (hK : K.In s.heap) (h1 : s.heap.Ns mainGlobals mg) (h2 : s.heap.Ns builtinsNs mb) (h3 : ∀ x : Str, x ≠ "__name__" → mb x = bootBuiltins x) (h4 : s.heap.NoLimit) (h5 : s.gens = #[])
    (h6 : s.heap.get? a = some { cls := .type "list", data := .seq us.toArray }) (h7 : IntsAre us ns) (h8 : ns.length ≤ sizeLine) (h9 : Room k callerA)
    (F : ∀ base : Heap, K.In base → base.Ns mainGlobals mg → base.NoSeer → FnOk P w K mg base CX k fa fd [x] sp) (hb : ∀ (s : Shared) (u : Value), BindsTo s fd ⟨[u], []⟩ [(x, u)])
    (hsp : ∀ H : Hp, Only H → SqL K H a (ns.map V.int) → sp [.ref a] H (fun v _ => v = .bl true) fun _ _ _ => False)
    (hc : ∀ H e s', CX [] H s (fun _ _ _ => False) e s' → False) :
    codeAny (model P w) callerA (.call (.ref fa) ⟨[.ref a], []⟩) (fun r s' => r = .ok (.ret (.bool true)) ∧ OldK s.heap s'.heap ∧ s'.os = s.os ∧ AllBare s'.gens) s := by
  have rel := vals_ints h7
  -- what is tracked: the script, where the written part has it not
  let fz : HO := .frz { cls := .type "list", data := .seq us.toArray } (.lst (ns.map V.int))
  let H : Hp := fun b => if b = a then (if (K.lookup a).isSome then none else some fz) else none
  have Hn : ∀ {b : Addr}, b ≠ a → H b = none := fun n => if_neg n
  have Hs : ∀ {b : Addr} {u : HO}, H b = some u → b = a ∧ u = fz ∧ K.lookup a = none := fun {b u} z => by
    by_cases e : b = a
    · subst e
      have z : (if b = b then (if (K.lookup b).isSome then none else some fz) else none) = some u := z
      rw [if_pos rfl] at z
      cases q : K.lookup b with
      | none =>
        rw [q] at z
        exact ⟨rfl, (Option.some.inj z).symm, rfl⟩
      | some o => rw [q] at z; cases z
    · rw [Hn e] at z; cases z
  have only : Only H := fun b => by
    cases q : H b with
    | none => exact .inl rfl
    | some u => exact .inr ⟨_, _, congrArg some (Hs q).2.1⟩
  have old : ∀ {b : Addr} {o : Obj}, s.heap.get? b = some o → b ≠ a → (hidT s.heap H).get? b = some o := fun e n => hidT_get e (Hn n)
  have notA : ∀ {b : Addr} {o : Obj}, s.heap.get? b = some o → (∀ vs n, o.data ≠ .seq vs n) → b ≠ a := fun {b o} e d z => by
    rw [z, h6] at e
    exact d _ _ (congrArg Obj.data (Option.some.inj e)).symm
  have dictA : ∀ {b : Addr} {m : Str → Option Value}, s.heap.Ns b m → (hidT s.heap H).Ns b m := fun {b m} z => by
    obtain ⟨o, es, ep, e, d, r⟩ := z
    exact ⟨o, es, ep, old e (notA e fun vs n y => by rw [d] at y; cases y), d, r⟩
  have kin : K.In (hidT s.heap H) := fun b o e => by
    have e1 := hK b o e
    cases q : H b with
    | none => exact hidT_get e1 q
    | some u =>
      obtain ⟨rfl, _, y⟩ := Hs q
      rw [y] at e; cases e
  have lim : (hidT s.heap H).NoLimit := by
    obtain ⟨mc, l1, l2⟩ := h4
    exact ⟨mc, dictA l1, l2⟩
  have seer : (hidT s.heap H).NoSeer := by
    obtain ⟨⟨m1, a1, b1⟩, ⟨m2, a2, b2⟩, ⟨m3, a3, b3⟩, ⟨m4, bm, ob, a4, b4, c4, d4, e4⟩⟩ := hS
    refine ⟨⟨m1, dictA a1, b1⟩, ⟨m2, dictA a2, b2⟩, ⟨m3, dictA a3, b3⟩, ⟨m4, bm, ob, dictA a4, b4, old c4 (fun z => ?_), d4, e4⟩⟩
    rw [z, h6] at c4
    rw [← Option.some.inj c4] at d4
    have d5 : Value.type "list" = Value.type "module" := d4
    injection d5 with d5
    exact absurd d5 (by decide)
  have md : Mod K mg (hidT s.heap H) := ⟨kin, dictA h1, ⟨mb, dictA h2, h3⟩, lim⟩
  have hok : HOk P w H s.heap := fun b u z => by
    obtain ⟨rfl, rfl, _⟩ := Hs z
    exact ⟨h6, by rw [List.length_map]; exact h8, us, _, rel, h6⟩
  have sq : SqL K H a (ns.map V.int) := by
    cases q : K.lookup a with
    | none =>
      refine .inl (.inr ⟨{ cls := .type "list", data := .seq us.toArray }, ?_⟩)
      show (if a = a then (if (K.lookup a).isSome then none else some fz) else none) = _
      rw [if_pos rfl, q]
      rfl
    | some o =>
      have e1 := (hK a o q).symm.trans h6
      obtain rfl := Option.some.inj e1
      exact .inr ⟨_, us.toArray, _, q, rfl, rfl, rfl, by rw [List.size_toArray, h7.length]; exact h8, by simpa using rel⟩
  have env : Env0 P w K mg (hidT s.heap H) callerA [] s H := ⟨rfl, md, fun b o e => of_hidT e, Nat.le_of_eq (hidT_size _ _), trivial, (fun b z => nomatch z), hok, .of_eq h5⟩
  refine codeAny_mono ((F _ kin (dictA h1) seer).run callerA [] s H ⟨[.ref a], []⟩ [.ref a] [.ref a] _ _ h9 env (hb s (.ref a)) (.cons rfl .nil) (hsp H only sq)) fun r s' z => ?_
  match r, z with
  | .error e, z => exact (hc H e s' z).elim
  | .ok .next, z => exact z.elim
  | .ok .brk, z => exact z.elim
  | .ok .cont, z => exact z.elim
  | .ok (.ret u), z =>
    obtain ⟨v, H', os, bare, un, hok', ru, ev⟩ := z
    have ev : v = .bl true := ev
    subst ev
    have ru : u = Value.bool true := ru
    subst ru
    refine ⟨rfl, OldK.of_keep fun b o e => ?_, os, bare⟩
    cases q : H b with
    | none => exact un.keep b o e q (fun y => by cases y) (fun y => by cases y)
    | some u2 =>
      obtain ⟨rfl, rfl, _⟩ := Hs q
      have y1 := (hok b _ q).1
      have y2 := (hok' b _ (un.frzs b _ _ q)).1
      exact y2.trans (y1.symm.trans e)
theorem big_walk {l : PySem.W.OpenLaw} {n k : Nat} {q : Program} {loose : List Str} {XP : (Str → Option Value) → Heap → Prop} {YP : World → Heap → Prop} {d : DefRec} {K : Params → PySem.W.Frag} {CX : World → CXT} {sp : World → Sp} {x : Str}
    (hi : importsNone q = true) (h1 : l.most = some n) (h2 : n ≤ sizeLine) (h3 : d.params.defaults = []) (hr : Room k callerA)
    (hY : ∀ (w : World) (h : Heap), YP w h → (K w.params).In h)
    (F : ∀ (w : World) (mg : Str → Option Value) (fa : Addr) (h : Heap), (K w.params).In h → h.Ns mainGlobals mg → mg d.name = some (.ref fa) →
      ∃ fd : FuncData, (∀ (s : Shared) (u : Value), BindsTo s fd ⟨[u], []⟩ [(x, u)]) ∧
        ∀ base : Heap, (K w.params).In base → base.Ns mainGlobals mg → base.NoSeer → FnOk l.prog w (K w.params) mg base (CX w) k fa fd [x] (sp w))
    (hsp : ∀ (w : World) (H : Hp) (a : Addr) (ns : List Int), ns.length ≤ n → Only H → SqL (K w.params) H a (ns.map V.int) → sp w [.ref a] H (fun v _ => v = .bl true) fun _ _ _ => False)
    (hC : ∀ (w : World) (H : Hp) (s : Shared) (e : Value) (s' : Shared), CX w [] H s (fun _ _ _ => False) e s' → False) :
    PySem.W.WalkO q loose XP YP l.row.toRowW d [] (fun f vs => PySem.call f vs) := by
  refine Att.attach_call h1 h3 fun w s0 s mg mb fa o pm cd doc a us ns G Y _ _ _ gf ga gi gl gg => ?_
  obtain ⟨fd, hb, hF⟩ := F w mg fa _ (hY w _ Y) G.T.g gf
  exact big_call (G.T.seer hi) (hY w _ Y) G.T.g G.T.b G.T.builtins G.T.nolimit gg ga gi (Nat.le_trans gl h2) hr hF hb (fun H o z => hsp w H a ns gl o z) fun H e s' => hC w H s e s'
end PL

set_option Elab.async false
set_option maxRecDepth 100000
/-! Ratios as numbers, of any size that the model holds -/
namespace RQ
open PySem L2
def Bt (b : Nat) (x : Int) : Prop := x.natAbs < 2 ^ b
theorem Bt.up {a b : Nat} {x : Int} (h : Bt a x) (l : a ≤ b) : Bt b x := Nat.lt_of_lt_of_le h (Nat.pow_le_pow_right (by decide) l)
theorem Bt.mul {a b : Nat} {x y : Int} (h : Bt a x) (k : Bt b y) : Bt (a + b) (x * y) := by
  unfold Bt
  rw [Int.natAbs_mul, Nat.pow_add]
  exact Nat.mul_lt_mul'' h k
theorem Bt.add {a : Nat} {x y : Int} (h : Bt a x) (k : Bt a y) : Bt (a + 1) (x + y) := by
  unfold Bt at *
  have := Int.natAbs_add_le x y
  rw [Nat.pow_succ]
  omega
theorem Bt.sub {a : Nat} {x y : Int} (h : Bt a x) (k : Bt a y) : Bt (a + 1) (x - y) := by
  unfold Bt at *
  have := Int.natAbs_sub_le x y
  rw [Nat.pow_succ]
  omega
theorem Bt.neg {a : Nat} {x : Int} (h : Bt a x) : Bt a (-x) := by
  unfold Bt at *
  rw [Int.natAbs_neg]
  exact h
theorem Bt.le {a : Nat} {x y : Int} (h : Bt a x) (l : y.natAbs ≤ x.natAbs) : Bt a y := Nat.lt_of_le_of_lt l h
theorem Bt.log {a : Nat} {x : Int} (h : Bt a x) : x.natAbs.log2 ≤ a := by
  by_cases z : x.natAbs = 0
  · rw [z]; exact Nat.zero_le _
  · exact Nat.le_of_lt ((Nat.log2_lt z).mpr h)
/-- of at most sixty million bits -/
def Hg (x : Int) : Prop := ∃ b, b ≤ 60000000 ∧ Bt b x
theorem Bt.hg {a : Nat} {x : Int} (h : Bt a x) (l : a ≤ 60000000) : Hg x := ⟨a, l, h⟩
def CMulH (i j : Int) : Prop := Hg i ∧ Hg j
theorem CMulH.ok {i j : Int} (h : CMulH i j) : IntMulOk i j := by
  obtain ⟨⟨a, la, ha⟩, ⟨b, lb, hb⟩⟩ := h
  have ia : ∀ z : Int, Builtin.Int.intBits z ≤ z.natAbs.log2 + 1 := fun z => by unfold Builtin.Int.intBits; split <;> omega
  have e1 := ia i
  have e2 := ia j
  have e3 := ha.log
  have e4 := hb.log
  have line : bitsLine = 134217728 := by decide
  unfold IntMulOk
  intro y
  have y := (Bool.and_eq_true_iff.mp y).2
  unfold Builtin.Int.intTooBig at y
  have y := of_decide_eq_true y
  rw [line] at y
  omega
theorem op_mulH {X : Cx} : OpR X (binaryOp .Mult) (rI CMulH fun i j => .int (i * j)) := opI fun _ _ _ _ _ _ _ hc q => PyProof.Rows.mul_int q hc.ok
/-! ### numbers -/
theorem den0 (q : Rat) : ((q.den : Int) : Rat) ≠ 0 := fun z => q.den_nz (by
  have : ((q.den : Int) : Rat) = ((0 : Int) : Rat) := z
  have := Rat.intCast_inj.mp this
  omega)
theorem nd (q : Rat) : (q.num : Rat) = q * ((q.den : Int) : Rat) := by
  have e : (q.num : Rat) / ((q.den : Int) : Rat) = q := by rw [← Rat.divInt_eq_div, Rat.num_divInt_den]
  have d := den0 q
  grind
theorem i0 {b : Int} (h : b ≠ 0) : (b : Rat) ≠ 0 := fun z => h (Rat.intCast_inj.mp (by rw [z]; rfl))
/-- lowest terms of t / b -/
theorem low {t b : Int} (h : b ≠ 0) {q : Rat} (e : (t : Rat) = q * (b : Rat)) : RT.top t b = q.num ∧ RT.bot t b = (q.den : Int) := by
  have d0 : 0 < (q.den : Int) := by have := q.den_pos; omega
  refine RT.uniq (RT.bot_pos h) d0 (RT.cop h) (by rw [Int.natAbs_natCast]; exact q.reduced) ?_
  have c := RT.cross (t := t) h
  have c' : ((RT.top t b : Int) : Rat) * (b : Rat) = (t : Rat) * ((RT.bot t b : Int) : Rat) := by rw [← Rat.intCast_mul, c, Rat.intCast_mul]
  have n1 := nd q
  have b0 := i0 h
  refine Rat.intCast_inj.mp ?_
  rw [Rat.intCast_mul, Rat.intCast_mul]
  grind
theorem num0 {q : Rat} : q.num = 0 ↔ q = 0 := Rat.num_eq_zero
/-- z over m is the number -/
theorem den_dvd {q : Rat} {z m : Int} (h : m ≠ 0) (e : (z : Rat) = q * (m : Rat)) : (q.den : Int) ∣ m ∧ q.num ∣ z := by
  obtain ⟨e1, e2⟩ := low h e
  rw [← e1, ← e2]
  exact ⟨⟨RT.byv z m, (RT.bot_mul h).symm⟩, ⟨RT.byv z m, (RT.top_mul h).symm⟩⟩
end RQ

set_option exponentiation.threshold 100000
namespace RT
/-- the sum of the products of n / d with m / e, each step in lowest terms -/
def due (n d m e : Nat → Int) : Nat → Int × Int
  | 0 => (0, 1)
  | k + 1 => if n k ≠ 0 ∧ m k ≠ 0 then
      (top ((due n d m e k).1 * bot (n k * m k) (d k * e k) + top (n k * m k) (d k * e k) * (due n d m e k).2) ((due n d m e k).2 * bot (n k * m k) (d k * e k)),
       bot ((due n d m e k).1 * bot (n k * m k) (d k * e k) + top (n k * m k) (d k * e k) * (due n d m e k).2) ((due n d m e k).2 * bot (n k * m k) (d k * e k)))
    else due n d m e k
theorem due_yes {n d m e : Nat → Int} {k : Nat} (h1 : n k ≠ 0) (h2 : m k ≠ 0) : due n d m e (k + 1) =
    (top ((due n d m e k).1 * bot (n k * m k) (d k * e k) + top (n k * m k) (d k * e k) * (due n d m e k).2) ((due n d m e k).2 * bot (n k * m k) (d k * e k)),
       bot ((due n d m e k).1 * bot (n k * m k) (d k * e k) + top (n k * m k) (d k * e k) * (due n d m e k).2) ((due n d m e k).2 * bot (n k * m k) (d k * e k))) := if_pos ⟨h1, h2⟩
theorem due_no {n d m e : Nat → Int} {k : Nat} (h : ¬ (n k ≠ 0 ∧ m k ≠ 0)) : due n d m e (k + 1) = due n d m e k := if_neg h
abbrev BB : Nat := 2 ^ 134
/-- of at most 67 bits, the bottom above 0 -/
structure Fr (x y : Int) : Prop where
  n : x.natAbs < 2 ^ 67
  d : y.natAbs < 2 ^ 67
  p : 0 < y
structure DueOk (k : Nat) (p : Int × Int) : Prop where
  pos : 0 < p.2
  co : Nat.Coprime p.1.natAbs p.2.natAbs
  bot : p.2.natAbs ≤ BB ^ k
  top : p.1.natAbs ≤ k * BB * p.2.natAbs
theorem prod_lt {x y : Int} (h : x.natAbs < 2 ^ 67) (h' : y.natAbs < 2 ^ 67) : (x * y).natAbs ≤ BB := by
  rw [Int.natAbs_mul]
  have := Nat.mul_lt_mul'' h h'
  rw [← Nat.pow_add] at this
  exact Nat.le_of_lt this
theorem due_step {k : Nat} {p : Int × Int} (h : DueOk k p) {x y : Int} (hy : 0 < y) (x1 : x.natAbs ≤ BB) (y1 : y.natAbs ≤ BB) :
    DueOk (k + 1) (RT.top (p.1 * y + x * p.2) (p.2 * y), RT.bot (p.1 * y + x * p.2) (p.2 * y)) := by
  have hD : p.2 * y ≠ 0 := Int.mul_ne_zero (by have := h.pos; omega) (by omega)
  have hDp : 0 < (p.2 * y).natAbs := Int.natAbs_pos.mpr hD
  refine ⟨bot_pos hD, cop hD, ?_, ?_⟩
  · refine Nat.le_trans (bot_le hD) ?_
    rw [Int.natAbs_mul, Nat.pow_succ]
    exact Nat.mul_le_mul h.bot y1
  · have c := cross (t := p.1 * y + x * p.2) hD
    have c' : (RT.top (p.1 * y + x * p.2) (p.2 * y)).natAbs * (p.2 * y).natAbs = (p.1 * y + x * p.2).natAbs * (RT.bot (p.1 * y + x * p.2) (p.2 * y)).natAbs := by rw [← Int.natAbs_mul, c, Int.natAbs_mul]
    have t1 : (p.1 * y + x * p.2).natAbs ≤ (k + 1) * BB * (p.2 * y).natAbs := by
      refine Nat.le_trans (Int.natAbs_add_le _ _) ?_
      rw [Int.natAbs_mul, Int.natAbs_mul, Int.natAbs_mul]
      have a1 : p.1.natAbs * y.natAbs ≤ k * BB * p.2.natAbs * y.natAbs := Nat.mul_le_mul_right _ h.top
      have a2 : x.natAbs * p.2.natAbs ≤ BB * p.2.natAbs * y.natAbs := by
        have : 1 ≤ y.natAbs := by omega
        refine Nat.le_trans (Nat.mul_le_mul_right _ x1) ?_
        exact Nat.le_mul_of_pos_right _ this
      have : (k + 1) * BB * (p.2.natAbs * y.natAbs) = k * BB * p.2.natAbs * y.natAbs + BB * p.2.natAbs * y.natAbs := by
        rw [Nat.add_mul, Nat.add_mul, Nat.one_mul]
        congr 1 <;> ac_rfl
      rw [this]
      exact Nat.add_le_add a1 a2
    refine Nat.le_of_mul_le_mul_right ?_ hDp
    show (RT.top (p.1 * y + x * p.2) (p.2 * y)).natAbs * (p.2 * y).natAbs ≤ (k + 1) * BB * (RT.bot (p.1 * y + x * p.2) (p.2 * y)).natAbs * (p.2 * y).natAbs
    rw [c']
    have := Nat.mul_le_mul_right (RT.bot (p.1 * y + x * p.2) (p.2 * y)).natAbs t1
    refine Nat.le_trans this (Nat.le_of_eq ?_)
    ac_rfl
theorem DueOk.up {k : Nat} {p : Int × Int} (h : DueOk k p) : DueOk (k + 1) p :=
  ⟨h.pos, h.co, Nat.le_trans h.bot (Nat.pow_le_pow_right (by decide) (by omega)), Nat.le_trans h.top (Nat.mul_le_mul_right _ (Nat.mul_le_mul_right _ (by omega)))⟩
theorem due_ok {n d m e : Nat → Int} : ∀ {k : Nat}, (∀ j, j < k → Fr (n j) (d j) ∧ Fr (m j) (e j)) → DueOk k (due n d m e k)
  | 0, _ => ⟨show (0 : Int) < 1 by decide, Nat.coprime_one_right _, show 1 ≤ 1 by decide, Nat.zero_le _⟩
  | k + 1, h => by
    have i := due_ok (k := k) fun j hj => h j (by omega)
    obtain ⟨f1, f2⟩ := h k (by omega)
    by_cases z : n k ≠ 0 ∧ m k ≠ 0
    · rw [due_yes z.1 z.2]
      have hb : d k * e k ≠ 0 := Int.mul_ne_zero (by have := f1.p; omega) (by have := f2.p; omega)
      exact due_step i (bot_pos hb) (Nat.le_trans (top_le hb) (prod_lt f1.n f2.n)) (Nat.le_trans (bot_le hb) (prod_lt f1.d f2.d))
    · rw [due_no z]
      exact i.up
/-- the running sum over one bottom -/
structure SumAt (n d m e : Nat → Int) (k : Nat) (t b : Int) : Prop where
  pos : 0 < b
  bot : b.natAbs ≤ BB ^ k
  top : t.natAbs ≤ k * BB * b.natAbs
  eq : t * (due n d m e k).2 = (due n d m e k).1 * b
def lcmI (x y : Int) : Int := ((Nat.lcm x.natAbs y.natAbs : Nat) : Int)
theorem lcm_l (x y : Int) : x ∣ lcmI x y := by
  unfold lcmI
  exact Int.natAbs_dvd_natAbs.mp (by rw [Int.natAbs_natCast]; exact Nat.dvd_lcm_left _ _)
theorem lcm_r (x y : Int) : y ∣ lcmI x y := by
  unfold lcmI
  exact Int.natAbs_dvd_natAbs.mp (by rw [Int.natAbs_natCast]; exact Nat.dvd_lcm_right _ _)
theorem lcm_pos {x y : Int} (hx : 0 < x) (hy : 0 < y) : 0 < lcmI x y := by
  unfold lcmI
  have : 0 < Nat.lcm x.natAbs y.natAbs := Nat.lcm_pos (by omega) (by omega)
  omega
theorem lcm_le {x y : Int} (hx : 0 < x) (hy : 0 < y) : (lcmI x y).natAbs ≤ x.natAbs * y.natAbs := by
  unfold lcmI
  rw [Int.natAbs_natCast]
  exact Nat.le_of_dvd (Nat.mul_pos (by omega) (by omega)) (Nat.lcm_dvd_mul _ _)
theorem sum_zero {n d m e : Nat → Int} : SumAt n d m e 0 0 1 := ⟨by decide, by decide, by decide, by rfl⟩
theorem sum_no {n d m e : Nat → Int} {k : Nat} {t b : Int} (h : SumAt n d m e k t b) (z : n k * m k = 0) : SumAt n d m e (k + 1) t b := by
  refine ⟨h.pos, Nat.le_trans h.bot (Nat.pow_le_pow_right (by decide) (by omega)), Nat.le_trans h.top (Nat.mul_le_mul_right _ (Nat.mul_le_mul_right _ (by omega))), ?_⟩
  rw [due_no (fun ⟨x, y⟩ => Int.mul_ne_zero x y z)]
  exact h.eq
theorem sum_yes {n d m e : Nat → Int} {k : Nat} {t b : Int} (h : SumAt n d m e k t b) (f : ∀ j, j < k + 1 → Fr (n j) (d j) ∧ Fr (m j) (e j)) (z : n k * m k ≠ 0) :
    SumAt n d m e (k + 1) (t * (lcmI b (d k * e k)).fdiv b + n k * m k * (lcmI b (d k * e k)).fdiv (d k * e k)) (lcmI b (d k * e k)) := by
  obtain ⟨f1, f2⟩ := f k (by omega)
  have hb : 0 < d k * e k := Int.mul_pos f1.p f2.p
  have hL := lcm_pos h.pos hb
  have c1 := fdiv_of_dvd (by have := h.pos; omega) (lcm_l b (d k * e k))
  have c2 := fdiv_of_dvd (by omega) (lcm_r b (d k * e k))
  have hle := lcm_le h.pos hb
  generalize lcmI b (d k * e k) = L at *
  generalize L.fdiv b = q1 at *
  generalize L.fdiv (d k * e k) = q2 at *
  have dk := due_ok (n := n) (d := d) (m := m) (e := e) (k := k) fun j hj => f j (by omega)
  refine ⟨hL, ?_, ?_, ?_⟩
  · rw [Nat.pow_succ]
    exact Nat.le_trans hle (Nat.mul_le_mul h.bot (prod_lt f1.d f2.d))
  · refine Nat.le_trans (Int.natAbs_add_le _ _) ?_
    have e1 : q1.natAbs * b.natAbs = L.natAbs := by rw [← Int.natAbs_mul, c1]
    have e2 : q2.natAbs * (d k * e k).natAbs = L.natAbs := by rw [← Int.natAbs_mul, c2]
    have a1 : (t * q1).natAbs ≤ k * BB * L.natAbs := by
      rw [Int.natAbs_mul, ← e1]
      refine Nat.le_trans (Nat.mul_le_mul_right _ h.top) (Nat.le_of_eq ?_)
      ac_rfl
    have a2 : (n k * m k * q2).natAbs ≤ BB * L.natAbs := by
      rw [Int.natAbs_mul]
      refine Nat.mul_le_mul (prod_lt f1.n f2.n) ?_
      rw [← e2]
      exact Nat.le_mul_of_pos_right _ (by omega)
    have : (k + 1) * BB * L.natAbs = k * BB * L.natAbs + BB * L.natAbs := by
      rw [Nat.add_mul, Nat.add_mul, Nat.one_mul]
    rw [this]
    exact Nat.add_le_add a1 a2
  · have z1 : n k ≠ 0 := fun z' => z (by rw [z', Int.zero_mul])
    have z2 : m k ≠ 0 := fun z' => z (by rw [z', Int.mul_zero])
    rw [due_yes z1 z2]
    have hbn : d k * e k ≠ 0 := by omega
    have x1 := cross (t := n k * m k) hbn
    have y0 := bot_pos (t := n k * m k) hbn
    have he := h.eq
    have p0 := dk.pos
    generalize due n d m e k = p at *
    generalize RT.top (n k * m k) (d k * e k) = x at *
    generalize RT.bot (n k * m k) (d k * e k) = y at *
    have hD : p.2 * y ≠ 0 := Int.mul_ne_zero (by omega) (by omega)
    have c := cross (t := p.1 * y + x * p.2) hD
    have key : (t * q1 + n k * m k * q2) * (p.2 * y) = (p.1 * y + x * p.2) * L := by
      calc (t * q1 + n k * m k * q2) * (p.2 * y) = t * p.2 * (q1 * y) + n k * m k * y * (q2 * p.2) := by
            rw [Int.add_mul]; congr 1 <;> ac_rfl
        _ = p.1 * b * (q1 * y) + x * (d k * e k) * (q2 * p.2) := by rw [he, x1]
        _ = p.1 * y * (q1 * b) + x * p.2 * (q2 * (d k * e k)) := by congr 1 <;> ac_rfl
        _ = p.1 * y * L + x * p.2 * L := by rw [c1, c2]
        _ = _ := by rw [Int.add_mul]
    show (t * q1 + n k * m k * q2) * RT.bot (p.1 * y + x * p.2) (p.2 * y) = RT.top (p.1 * y + x * p.2) (p.2 * y) * L
    refine Int.eq_of_mul_eq_mul_right hD ?_
    calc (t * q1 + n k * m k * q2) * RT.bot (p.1 * y + x * p.2) (p.2 * y) * (p.2 * y) = ((t * q1 + n k * m k * q2) * (p.2 * y)) * RT.bot (p.1 * y + x * p.2) (p.2 * y) := by ac_rfl
      _ = ((p.1 * y + x * p.2) * RT.bot (p.1 * y + x * p.2) (p.2 * y)) * L := by rw [key]; ac_rfl
      _ = (RT.top (p.1 * y + x * p.2) (p.2 * y) * (p.2 * y)) * L := by rw [c]
      _ = RT.top (p.1 * y + x * p.2) (p.2 * y) * L * (p.2 * y) := by ac_rfl
theorem sum_end {n d m e : Nat → Int} {k : Nat} {t b : Int} (h : SumAt n d m e k t b) (f : ∀ j, j < k → Fr (n j) (d j) ∧ Fr (m j) (e j)) : RT.top t b = (due n d m e k).1 ∧ RT.bot t b = (due n d m e k).2 := by
  have dk := due_ok f
  have p0 := dk.pos
  have k1 := keeps dk.pos dk.co
  have s := same (t := t) (b := b) (t' := (due n d m e k).1) (b' := (due n d m e k).2) (by have := h.pos; omega) (by omega) h.eq
  exact ⟨s.1.trans k1.1, s.2.trans k1.2⟩
theorem BB_pow {k : Nat} (h : k ≤ 60) : BB ^ k ≤ 2 ^ 8040 := by
  have : BB ^ k ≤ BB ^ 60 := Nat.pow_le_pow_right (by decide) h
  exact Nat.le_trans this (by rw [← Nat.pow_mul]; exact Nat.le_refl _)
theorem BB_top {k x : Nat} (h : k ≤ 60) (hx : x ≤ 2 ^ 8040) : k * BB * x < 2 ^ 8200 := by
  have h1 : k * BB ≤ 2 ^ 6 * 2 ^ 134 := Nat.mul_le_mul_right _ (by omega)
  have h2 : k * BB * x ≤ 2 ^ 6 * 2 ^ 134 * 2 ^ 8040 := Nat.mul_le_mul h1 hx
  rw [← Nat.pow_add, ← Nat.pow_add] at h2
  exact Nat.lt_of_le_of_lt h2 (Nat.pow_lt_pow_right (by decide) (by decide))
end RT

set_option Elab.async false
set_option maxRecDepth 100000
set_option exponentiation.threshold 100000
namespace RX
open PySem L2
def rLcm : List V → Hp → VK → Prop := fun vs H Q => ∃ a b : Int, vs = [.int a, .int b] ∧ a.natAbs < 2 ^ 13000 ∧ b.natAbs < 2 ^ 13000 ∧ Q (.int (RT.lcmI a b)) H
theorem lcm_log {x : Nat} (h : x < 2 ^ 13000) : ¬ (max 1 x).log2 / 30 + 1 > 450 := by
  have : (max 1 x).log2 < 13000 := by
    refine (Nat.log2_lt (by omega)).mpr ?_
    have : 1 < 2 ^ 13000 := Nat.one_lt_two_pow (by decide)
    omega
  omega
theorem cr_lcm {X : Cx} : CallR X (.builtin "math.lcm") rLcm := by
  intro pins s σ H vs us Q I r h
  obtain ⟨a, b, rfl, ha, hb, q⟩ := h
  obtain ⟨t, u, rfl⟩ := Vals.int2 r
  have e1 : ((Nat.lcm 1 a.natAbs).lcm b.natAbs : Nat) = Nat.lcm a.natAbs b.natAbs := by rw [Nat.lcm_one_left]
  have hm : max a.natAbs b.natAbs < 2 ^ 13000 := by omega
  have g := PySem.W.mg_run_lcm a t b u (lcm_log ha) (by
      have := lcm_log hm
      have h2 : (max a.natAbs b.natAbs).log2 ≤ (max 1 (max a.natAbs b.natAbs)).log2 := by
        by_cases z : max a.natAbs b.natAbs = 0
        · rw [z]; exact Nat.zero_le _
        · rw [show max 1 (max a.natAbs b.natAbs) = max a.natAbs b.natAbs by omega]; exact Nat.le_refl _
      omega) (by
      rw [e1, Int.natAbs_natCast]
      have h3 : Nat.lcm a.natAbs b.natAbs < 2 ^ 26000 := by
        by_cases z : a.natAbs = 0
        · rw [z, Nat.lcm_zero_left]; exact Nat.two_pow_pos _
        by_cases z2 : b.natAbs = 0
        · rw [z2, Nat.lcm_zero_right]; exact Nat.two_pow_pos _
        refine Nat.lt_of_le_of_lt (Nat.le_of_dvd (Nat.mul_pos (by omega) (by omega)) (Nat.lcm_dvd_mul _ _)) ?_
        have := Nat.mul_lt_mul'' ha hb
        rw [← Nat.pow_add] at this
        exact this
      by_cases z : Nat.lcm a.natAbs b.natAbs = 0
      · rw [z]; decide
      · exact Nat.lt_of_lt_of_le ((Nat.log2_lt z).mpr h3) (by decide))
  rw [e1] at g
  exact PySem.call_function_meets PySem.W.MGF.kind_lcm PySem.W.MGF.plain_lcm PySem.W.MGF.entry_lcm (PySem.W.MGF.args_lcm _ _) g.meets ⟨.int _, H, I.tok _, ⟨_, rfl⟩, q⟩
end RX

set_option Elab.async false
set_option maxRecDepth 100000
namespace RX
open PySem L2
open RQ (Hg Bt)
/-! ### Ratios and pairs of any size -/
abbrev sSum : Stmt := topS 22
abbrev sBy : Stmt := topS 23
def spInitB (C : Addr) : Sp := fun vs H Q _ => ∃ (p dx : Addr) (t b : Int), vs = [.ref p, .int t, .int b] ∧ H p = some (.ins C dx []) ∧ b ≠ 0 ∧
  ∀ H' : Hp, RatAt C H' p (RT.top t b) (RT.bot t b) → (∀ c o, H c = some o → c ≠ p → H' c = some o) → Q .non H'
def spPairB : Sp := fun vs H Q _ => ∃ (t b : Int), vs = [.int t, .int b] ∧ b ≠ 0 ∧ ∀ (r : Addr) (H' : Hp), Same H H' → H r = none → PairAt H' r (RT.top t b) (RT.bot t b) → Q (.ref r) H'
def spBinB (g g' : Int → Int → Int → Int → Int) : Sp := fun vs H Q _ => ∃ (p q : Addr) (n d m e : Int), vs = [.ref p, .ref q] ∧ PairAt H p n d ∧ PairAt H q m e ∧ d ≠ 0 ∧ e ≠ 0 ∧ Hg n ∧ Hg d ∧ Hg m ∧ Hg e ∧
  ∀ (r : Addr) (H' : Hp), Same H H' → H r = none → PairAt H' r (RT.top (g n d m e) (g' n d m e)) (RT.bot (g n d m e) (g' n d m e)) → Q (.ref r) H'
def spSumB : Sp := spBinB (fun n d m e => n * e + m * d) (fun _ d _ e => d * e)
def spByB : Sp := spBinB (fun n _ m _ => n * m) (fun _ d _ e => d * e)
section
variable {P : Program} {w : World} {K : PySem.W.Frag} {mg : Str → Option Value} {base : Heap}
theorem scIB : FnScope ["self", "top", "bottom", "shared", "by"] ["self", "top", "bottom"] (defScope sInit) := ⟨rfl, rfl, rfl, by decide +kernel, rfl, by decide +kernel, by decide +kernel⟩
theorem ok_initB (B : PL.Big P base) {f C : Addr} {fd : FuncData} (F : FunD K "__init__" "Ratio.__init__" (defArgs sInit) (defBody sInit) (defScope sInit) [.int 1] [] f fd) (T : TxtR K mg C) : FnOk P w K mg base CX0 33 f fd ["self", "top", "bottom"] (spInitB C) := by
  refine F.ok scIB (fun vs H Q E h => ?_) (fun cdv A outer s H vs Q E hr h => ?_)
  · obtain ⟨p, dx, t, b, rfl, _⟩ := h
    rfl
  · obtain ⟨p, dx, t, b, rfl, hp, hb, k⟩ := h
    refine ⟨_, pss_cons (ps_if (pt_cmpR op_eq (pv 2) pe_int (nomark _)) (pss_one ps_never) pss_nil)
      (pss_cons (ps_set (i := 3) scIB.nd rfl (Or.inl rfl) (pe_callBfun cr_gcd (by rfl) T.gcd (pa_cons (pv 1) (pa_cons (pv 2) pa_nil))))
      (pss_cons (ps_set (i := 4) scIB.nd rfl (Or.inl rfl) (pe_ifExp (pt_cmpR op_gt (pv 2) pe_int (nomark _)) (pv 3) (pe_un un_neg (pv 3))))
      (pss_cons (ps_fld (pv 0) (pe_op (PL.op_fdivP B hr ⟨_, _, rfl, rfl, rfl, rfl, rfl⟩) (pv 1) (pv 4)) rfl)
      (pss_one (ps_fld (pv 0) (pe_op (PL.op_fdivP B hr ⟨_, _, rfl, rfl, rfl, rfl, rfl⟩) (pv 2) (pv 4)) rfl))))), ?_⟩
    refine ⟨_, rfl, rfl, _, rfl, ?_⟩
    refine ite2 (fun z => ?_) (fun _ => ?_)
    · have z' := of_decide_eq_true z
      injection z' with z'
      exact absurd z' hb
    refine ⟨_, rfl, _, rfl, t, b, rfl, ?_⟩
    refine ⟨_, rfl, _, _, rfl, rfl, _, rfl, ?_⟩
    have by_ne := RT.byv_ne (t := t) hb
    have hdiv : ∀ y : Int, y = RT.byv t b → y ≠ 0 := fun y e => by rw [e]; exact by_ne
    have key : (if decide (b > 0) = true then RT.gg t b else -RT.gg t b) = RT.byv t b := by
      unfold RT.byv
      by_cases h0 : b > 0
      · rw [if_pos h0, if_pos (decide_eq_true h0)]
      · rw [if_neg h0, if_neg (by rw [decide_eq_false h0]; exact Bool.false_ne_true)]
    have fin : ∀ x : Int, x = RT.byv t b → Q .non (upd (upd H p (.ins C dx (putF "top" (.int (t.fdiv x)) []))) p (.ins C dx (putF "bottom" (.int (b.fdiv x)) (putF "top" (.int (t.fdiv x)) [])))) := fun x e => by
      subst e
      refine k _ ⟨dx, upd_same⟩ fun c o hc ne => ?_
      rw [upd_ne ne, upd_ne ne]
      exact hc
    refine ite2 (fun z => ?_) (fun z => ?_)
    · rw [if_pos z] at key
      refine ⟨_, rfl, _, rfl, _, rfl, _, _, rfl, rfl, (hdiv _ key), _, rfl, p, C, dx, [], rfl, hp, T.cl, T.nT, (by show 0 < 1000; decide), ?_⟩
      exact ⟨_, rfl, _, rfl, _, _, rfl, rfl, (hdiv _ key), _, rfl, p, C, dx, _, rfl, upd_same, T.cl, T.nB, (by show 1 < 1000; decide), fin _ key⟩
    · rw [if_neg z] at key
      refine ⟨_, rfl, _, rfl, _, rfl, _, rfl, _, _, rfl, rfl, (hdiv _ key), _, rfl, p, C, dx, [], rfl, hp, T.cl, T.nT, (by show 0 < 1000; decide), ?_⟩
      exact ⟨_, rfl, _, rfl, _, _, rfl, rfl, (hdiv _ key), _, rfl, p, C, dx, _, rfl, upd_same, T.cl, T.nB, (by show 1 < 1000; decide), fin _ key⟩
theorem scPB : FnScope ["above", "below", "one", "two"] ["above", "below"] (defScope sPair) := ⟨rfl, rfl, rfl, by decide +kernel, rfl, by decide +kernel, by decide +kernel⟩
theorem ok_pairB (B : PL.Big P base) {f : Addr} {fd : FuncData} (F : Fun K "_law_pair" "_law_pair" sPair f fd) (T : TxtL mg) : FnOk P w K mg base CX0 33 f fd ["above", "below"] spPairB := by
  refine F.ok scPB (fun vs H Q E h => ?_) (fun cdv A outer s H vs Q E hr h => ?_)
  · obtain ⟨t, b, rfl, _⟩ := h
    rfl
  · obtain ⟨t, b, rfl, hb, k⟩ := h
    refine ⟨_, pss_cons (ps_set (i := 2) scPB.nd rfl (.inl rfl) (pe_callB call_abs (by rfl) T.abs (by decide +kernel) (pa_cons (pv 0) pa_nil)))
      (pss_cons (ps_set (i := 3) scPB.nd rfl (.inl rfl) (pe_callB call_abs (by rfl) T.abs (by decide +kernel) (pa_cons (pv 1) pa_nil)))
      (pss_cons (ps_while PassesOwn.never (pt_cmpR op_gt (pv 3) pe_int (nomark _))
        (pss_one (ps_par (i := 2) (j := 3) (by rfl) scPB.nd rfl rfl (by decide) rfl rfl (pa_cons (pv 3) (pa_cons (pe_op op_mod (pe_callTy call_int1 (by rfl) T.int (by decide +kernel) (pa_cons (pv 2) pa_nil)) (pv 3)) pa_nil)) (by rfl))))
      (C8.pss_cut (ps_if (pt_cmpR op_lt (pv 1) pe_int (nomark _)) (pss_one (ps_set (i := 2) scPB.nd rfl (.inl rfl) (pe_op op_sub pe_int (pv 2)))) pss_nil)
      (pss_one (ps_ret (pe_tup (pa_cons (pe_op (PL.op_fdivP B hr ⟨_, _, rfl, rfl, rfl, rfl, rfl⟩) (pv 0) (pv 2)) (pa_cons (pe_op (PL.op_fdivP B hr ⟨_, _, rfl, rfl, rfl, rfl, rfl⟩) (pv 1) (pv 2)) pa_nil)))))))), ?_⟩
    refine ⟨_, rfl, t, rfl, _, rfl, b, rfl, ?_⟩
    have ab : ∀ x : Int, 0 ≤ (if x < 0 then -x else x) ∧ (if x < 0 then -x else x).natAbs = x.natAbs := fun x => by split <;> omega
    refine while_by (fun σ H' => ∃ x y : Int, σ = [some (.int t), some (.int b), some (.int x), some (.int y)] ∧ H' = H ∧ 0 ≤ x ∧ 0 ≤ y ∧ Nat.gcd x.natAbs y.natAbs = Nat.gcd t.natAbs b.natAbs)
      (fun σ _ => match σ with | [_, _, _, some (.int y)] => y.toNat | _ => 0)
      ⟨_, _, rfl, rfl, (ab t).1, (ab b).1, by rw [(ab t).2, (ab b).2]⟩ ?_ (fun σ H' R R' h q => by
        obtain ⟨v, hv, i, j, e1, e2, kk, e3, q⟩ := q
        exact ⟨v, hv, i, j, e1, e2, kk, e3, h _ _ q⟩)
    rintro σ H' ⟨x, y, rfl, rfl, x0, y0, g⟩
    refine ⟨_, rfl, _, _, rfl, rfl, _, rfl, ?_⟩
    refine ite2 (fun z => ?_) (fun z => ?_)
    · have z := of_decide_eq_true z
      refine ⟨_, rfl, _, rfl, .inl ⟨_, rfl, _, rfl, _, _, rfl, rfl, z, ?_⟩⟩
      have m0 := Int.emod_nonneg x (show y ≠ 0 by omega)
      have m1 := Int.emod_lt_of_pos x z
      refine ⟨_, _, rfl, ⟨_, _, rfl, rfl, y0, m0, ?_⟩, ?_⟩
      · rw [Nat.gcd_comm, ← g]
        have : (x % y).natAbs = x.natAbs % y.natAbs := by
          rw [Int.natAbs_emod_of_nonneg x0]
        rw [this, Nat.gcd_comm x.natAbs, Nat.gcd_rec y.natAbs x.natAbs]
      · show (x % y).toNat < y.toNat
        omega
    · have z : ¬ y > 0 := fun h => z (decide_eq_true h)
      have y00 : y = 0 := by omega
      subst y00
      have hg : x = RT.gg t b := by
        unfold RT.gg
        rw [← g]
        show x = ((Nat.gcd x.natAbs 0 : Nat) : Int)
        rw [Nat.gcd_zero_right]
        omega
      refine ⟨fun σ' H2 => σ' = [some (.int t), some (.int b), some (.int (RT.byv t b)), some (.int 0)] ∧ H2 = H', ?_, ?_⟩
      · refine ⟨_, rfl, _, _, rfl, rfl, _, rfl, ?_⟩
        refine ite2 (fun z => ?_) (fun z => ?_)
        · have z := of_decide_eq_true z
          refine ⟨_, rfl, _, _, rfl, rfl, ?_, rfl⟩
          have e : (0 : Int) - x = RT.byv t b := by
            unfold RT.byv
            rw [if_neg (by omega), hg]
            omega
          show [some (V.int t), some (V.int b), some (V.int (0 - x)), some (V.int 0)] = _
          rw [e]
        · have z : ¬ b < 0 := fun h => z (decide_eq_true h)
          refine ⟨?_, rfl⟩
          have e : x = RT.byv t b := by
            unfold RT.byv
            rw [if_pos (by omega), hg]
          rw [e]
      · rintro σ' H' ⟨rfl, rfl⟩
        refine ⟨_, rfl, _, rfl, _, _, rfl, rfl, RT.byv_ne hb, _, rfl, _, rfl, _, _, rfl, rfl, RT.byv_ne hb, (by show 2 ≤ sizeLine; decide), fun r nr => ?_⟩
        exact k r _ (Same.upd nr) nr upd_same
theorem scSuB : FnScope ["one", "two"] ["one", "two"] (defScope sSum) := ⟨rfl, rfl, rfl, by decide +kernel, rfl, by decide +kernel, by decide +kernel⟩
theorem scBB : FnScope ["one", "two"] ["one", "two"] (defScope sBy) := ⟨rfl, rfl, rfl, by decide +kernel, rfl, by decide +kernel, by decide +kernel⟩
theorem ok_sumB {f fP : Addr} {fd fdP : FuncData} (F : Fun K "_law_sum" "_law_sum" sSum f fd) (GP : FnOk P w K mg base CX0 33 fP fdP ["above", "below"] spPairB) (mP : mg "_law_pair" = some (.ref fP)) (kP : PySem.W.keepIn K (.ref fP) = true) (bP : Binds K fdP ["above", "below"] []) :
    FnOk P w K mg base CX0 34 f fd ["one", "two"] spSumB := by
  refine F.ok scSuB (fun vs H Q E h => ?_) (fun cdv A outer s H vs Q E hr h => ?_)
  · obtain ⟨p, q, n, d, m, e, rfl, _⟩ := h
    rfl
  · obtain ⟨p, q, n, d, m, e, rfl, hp, hq, hd, he, sn, sd, sm, se, kk⟩ := h
    refine ⟨_, C8.pss_cut (ps_if (PW.pt (pw_and (pt_cmpR op_eq (pe_ix ix_tup (pv 0) pe_int (fun _ _ => rfl)) pe_int (nomark _)) (pw_and1 (pt_cmpR op_eq (pe_ix ix_tup (pv 1) pe_int (fun _ _ => rfl)) pe_int (nomark _)))))
        (pss_one (ps_ret (pe_tup (pa_cons (pe_op op_add (pe_ix ix_tup (pv 0) pe_int (fun _ _ => rfl)) (pe_ix ix_tup (pv 1) pe_int (fun _ _ => rfl))) (pa_cons pe_int pa_nil))))) pss_nil)
      (pss_one (ps_ret (pe_call GP hr rfl mP kP bP .nil pass0 (pa_cons (pe_op op_add (pe_op RQ.op_mulH (pe_ix ix_tup (pv 0) pe_int (fun _ _ => rfl)) (pe_ix ix_tup (pv 1) pe_int (fun _ _ => rfl))) (pe_op RQ.op_mulH (pe_ix ix_tup (pv 1) pe_int (fun _ _ => rfl)) (pe_ix ix_tup (pv 0) pe_int (fun _ _ => rfl))))
        (pa_cons (pe_op RQ.op_mulH (pe_ix ix_tup (pv 0) pe_int (fun _ _ => rfl)) (pe_ix ix_tup (pv 1) pe_int (fun _ _ => rfl))) pa_nil))))), ?_⟩
    refine ⟨fun σ' H2 => σ' = [some (.ref p), some (.ref q)] ∧ H2 = H, ?_, ?_⟩
    · refine ⟨_, rfl, p, _, 1, _, rfl, rfl, hp.t, rfl, rfl, _, rfl, ?_⟩
      refine ite2 (fun z => ?_) (fun _ => ⟨rfl, rfl⟩)
      have z := of_decide_eq_true z
      injection z with z
      subst z
      refine ⟨_, rfl, q, _, 1, _, rfl, rfl, hq.t, rfl, rfl, _, rfl, ?_⟩
      refine ite2 (fun z => ?_) (fun _ => ⟨rfl, rfl⟩)
      have z := of_decide_eq_true z
      injection z with z
      subst z
      refine ⟨_, rfl, p, _, 0, _, rfl, rfl, hp.t, rfl, _, rfl, q, _, 0, _, rfl, rfl, hq.t, rfl, _, _, rfl, rfl, (by show 2 ≤ sizeLine; decide), fun r nr => ?_⟩
      refine kk r _ (Same.upd nr) nr ?_
      have o := RT.one (n * 1 + m * 1)
      show upd H r _ r = some (.tup [.int (RT.top (n * 1 + m * 1) 1), .int (RT.bot (n * 1 + m * 1) 1)])
      rw [upd_same, o.1, o.2, Int.mul_one, Int.mul_one]
    · rintro σ' H2 ⟨rfl, rfl⟩
      refine ⟨_, rfl, p, _, 0, _, rfl, rfl, hp.t, rfl, _, rfl, q, _, 1, _, rfl, rfl, hq.t, rfl, _, _, rfl, rfl, ⟨sn, se⟩, _, rfl, q, _, 0, _, rfl, rfl, hq.t, rfl, _, rfl, p, _, 1, _, rfl, rfl, hp.t, rfl, _, _, rfl, rfl, ⟨sm, sd⟩, _, _, rfl, rfl, _, rfl, p, _, 1, _, rfl, rfl, hp.t, rfl, _, rfl, q, _, 1, _, rfl, rfl, hq.t, rfl, _, _, rfl, rfl, ⟨sd, se⟩, ?_⟩
      exact ⟨_, _, rfl, Int.mul_ne_zero hd he, kk⟩
theorem ok_byB {f fP : Addr} {fd fdP : FuncData} (F : Fun K "_law_by" "_law_by" sBy f fd) (GP : FnOk P w K mg base CX0 33 fP fdP ["above", "below"] spPairB) (mP : mg "_law_pair" = some (.ref fP)) (kP : PySem.W.keepIn K (.ref fP) = true) (bP : Binds K fdP ["above", "below"] []) :
    FnOk P w K mg base CX0 34 f fd ["one", "two"] spByB := by
  refine F.ok scBB (fun vs H Q E h => ?_) (fun cdv A outer s H vs Q E hr h => ?_)
  · obtain ⟨p, q, n, d, m, e, rfl, _⟩ := h
    rfl
  · obtain ⟨p, q, n, d, m, e, rfl, hp, hq, hd, he, sn, sd, sm, se, kk⟩ := h
    refine ⟨_, C8.pss_cut (ps_if (PW.pt (pw_and (pt_cmpR op_eq (pe_ix ix_tup (pv 0) pe_int (fun _ _ => rfl)) pe_int (nomark _)) (pw_and1 (pt_cmpR op_eq (pe_ix ix_tup (pv 1) pe_int (fun _ _ => rfl)) pe_int (nomark _)))))
        (pss_one (ps_ret (pe_tup (pa_cons (pe_op RQ.op_mulH (pe_ix ix_tup (pv 0) pe_int (fun _ _ => rfl)) (pe_ix ix_tup (pv 1) pe_int (fun _ _ => rfl))) (pa_cons pe_int pa_nil))))) pss_nil)
      (pss_one (ps_ret (pe_call GP hr rfl mP kP bP .nil pass0 (pa_cons (pe_op RQ.op_mulH (pe_ix ix_tup (pv 0) pe_int (fun _ _ => rfl)) (pe_ix ix_tup (pv 1) pe_int (fun _ _ => rfl)))
        (pa_cons (pe_op RQ.op_mulH (pe_ix ix_tup (pv 0) pe_int (fun _ _ => rfl)) (pe_ix ix_tup (pv 1) pe_int (fun _ _ => rfl))) pa_nil))))), ?_⟩
    refine ⟨fun σ' H2 => σ' = [some (.ref p), some (.ref q)] ∧ H2 = H, ?_, ?_⟩
    · refine ⟨_, rfl, p, _, 1, _, rfl, rfl, hp.t, rfl, rfl, _, rfl, ?_⟩
      refine ite2 (fun z => ?_) (fun _ => ⟨rfl, rfl⟩)
      have z := of_decide_eq_true z
      injection z with z
      subst z
      refine ⟨_, rfl, q, _, 1, _, rfl, rfl, hq.t, rfl, rfl, _, rfl, ?_⟩
      refine ite2 (fun z => ?_) (fun _ => ⟨rfl, rfl⟩)
      have z := of_decide_eq_true z
      injection z with z
      subst z
      refine ⟨_, rfl, p, _, 0, _, rfl, rfl, hp.t, rfl, _, rfl, q, _, 0, _, rfl, rfl, hq.t, rfl, _, _, rfl, rfl, ⟨sn, sm⟩, (by show 2 ≤ sizeLine; decide), fun r nr => ?_⟩
      refine kk r _ (Same.upd nr) nr ?_
      have o := RT.one (n * m)
      show upd H r _ r = some (.tup [.int (RT.top (n * m) 1), .int (RT.bot (n * m) 1)])
      rw [upd_same, o.1, o.2]
    · rintro σ' H2 ⟨rfl, rfl⟩
      refine ⟨_, rfl, p, _, 0, _, rfl, rfl, hp.t, rfl, _, rfl, q, _, 0, _, rfl, rfl, hq.t, rfl, _, _, rfl, rfl, ⟨sn, sm⟩, _, rfl, p, _, 1, _, rfl, rfl, hp.t, rfl, _, rfl, q, _, 1, _, rfl, rfl, hq.t, rfl, _, _, rfl, rfl, ⟨sd, se⟩, ?_⟩
      exact ⟨_, _, rfl, Int.mul_ne_zero hd he, kk⟩
end
end RX

set_option Elab.async false
set_option maxRecDepth 100000
/-! rows of numbers: products, what a row taken from another leaves, tables in reduced form -/
namespace VM
open RQ
/-- the sum of the products of the first w -/
def dot (u y : Nat → Rat) : Nat → Rat
  | 0 => 0
  | w + 1 => dot u y w + u w * y w
theorem dot_congr {u u' y y' : Nat → Rat} : ∀ {w : Nat}, (∀ j, j < w → u j = u' j) → (∀ j, j < w → y j = y' j) → dot u y w = dot u' y' w
  | 0, _, _ => rfl
  | w + 1, h, k => by
    unfold dot
    rw [dot_congr (fun j hj => h j (by omega)) (fun j hj => k j (by omega)), h w (by omega), k w (by omega)]
theorem dot_lin {u v y : Nat → Rat} (s c : Rat) : ∀ {w : Nat}, dot (fun j => s * (u j - c * v j)) y w = s * (dot u y w - c * dot v y w)
  | 0 => by unfold dot; grind
  | w + 1 => by
    unfold dot
    rw [dot_lin s c]
    grind
theorem dot_zero {u y : Nat → Rat} : ∀ {w : Nat}, (∀ j, j < w → u j * y j = 0) → dot u y w = 0
  | 0, _ => rfl
  | w + 1, h => by
    unfold dot
    rw [dot_zero fun j hj => h j (by omega), h w (by omega)]
    grind
/-- all but one of the products are 0 -/
theorem dot_one {u y : Nat → Rat} {k : Nat} : ∀ {w : Nat}, k < w → (∀ j, j < w → j ≠ k → u j * y j = 0) → dot u y w = u k * y k
  | 0, h, _ => absurd h (by omega)
  | w + 1, h, z => by
    unfold dot
    by_cases e : k = w
    · subst e
      rw [dot_zero fun j hj => z j (by omega) (by omega)]
      grind
    · rw [dot_one (w := w) (by omega) fun j hj ne => z j (by omega) ne, z w (by omega) (by omega)]
      grind
/-- y is 0 on all rows -/
def Ann (h w : Nat) (A : Nat → Nat → Rat) (y : Nat → Rat) : Prop := ∀ i, i < h → dot (A i) y w = 0
/-- u less so much of v that it is 0 at l, times some number -/
def Less (w l : Nat) (u v u' : Nat → Rat) : Prop := ∃ s : Rat, s ≠ 0 ∧ ∀ j, j < w → u' j = s * (u j - u l / v l * v j)
theorem Less.dot {w l : Nat} {u v u' y : Nat → Rat} (h : Less w l u v u') (hv : dot v y w = 0) : dot u' y w = 0 ↔ dot u y w = 0 := by
  obtain ⟨s, hs, e⟩ := h
  rw [dot_congr e (fun _ _ => rfl), dot_lin, hv]
  constructor
  · intro z; grind
  · intro z; rw [z]; grind
theorem Less.at {w l : Nat} {u v u' : Nat → Rat} (h : Less w l u v u') (hl : l < w) (hv : v l ≠ 0) : u' l = 0 := by
  obtain ⟨s, hs, e⟩ := h
  rw [e l hl]
  grind
theorem Less.zero {w l j : Nat} {u v u' : Nat → Rat} (h : Less w l u v u') (hj : j < w) (h1 : u j = 0) (h2 : v j = 0) : u' j = 0 := by
  obtain ⟨s, hs, e⟩ := h
  rw [e j hj, h1, h2]
  grind
theorem Less.keep {w l j : Nat} {u v u' : Nat → Rat} (h : Less w l u v u') (hj : j < w) (h1 : u j ≠ 0) (h2 : v j = 0) : u' j ≠ 0 := by
  obtain ⟨s, hs, e⟩ := h
  rw [e j hj, h2]
  intro z
  grind
theorem Less.refl {w l : Nat} {u v : Nat → Rat} (h : u l = 0) : Less w l u v u := ⟨1, by decide, fun j _ => by rw [h]; grind⟩
/-- found rows: each with its own lead, 0 ahead of it and at the leads of the earlier ones -/
structure Ech (n w : Nat) (l : Nat → Nat) (v : Nat → Nat → Rat) : Prop where
  lt : ∀ k, k < n → l k < w
  nz : ∀ k, k < n → v k (l k) ≠ 0
  zb : ∀ k, k < n → ∀ j, j < l k → v k j = 0
  zz : ∀ k, k < n → ∀ i, i < k → v k (l i) = 0
theorem Ech.inj {n w : Nat} {l : Nat → Nat} {v : Nat → Nat → Rat} (E : Ech n w l v) {i k : Nat} (hi : i < n) (hk : k < n) (e : l i = l k) : i = k := by
  rcases Nat.lt_trichotomy i k with h | h | h
  · have := E.zz k hk i h
    rw [e] at this
    exact absurd this (E.nz k hk)
  · exact h
  · have := E.zz i hi k h
    rw [← e] at this
    exact absurd this (E.nz i hi)
/-- a table in reduced form -/
structure Rref (r w : Nat) (F : Nat → Nat → Rat) (L : Nat → Nat) : Prop where
  lt : ∀ t, t < r → L t < w
  up : ∀ s t, s < t → t < r → L s < L t
  one : ∀ t, t < r → F t (L t) = 1
  off : ∀ s t, s < r → t < r → s ≠ t → F s (L t) = 0
  zb : ∀ t, t < r → ∀ j, j < L t → F t j = 0
/-! ### sizes -/
/-- bottoms that divide the column's, tops of at most b bits -/
structure VB (M : Nat → Int) (b w : Nat) (u : Nat → Rat) : Prop where
  d : ∀ j, j < w → ((u j).den : Int) ∣ M j
  n : ∀ j, j < w → Bt b (u j).num
structure MB (M : Nat → Int) (m w : Nat) : Prop where
  p : ∀ j, j < w → 0 < M j
  b : ∀ j, j < w → Bt m (M j)
theorem VB.up {M : Nat → Int} {a b w : Nat} {u : Nat → Rat} (h : VB M a w u) (l : a ≤ b) : VB M b w u := ⟨h.d, fun j hj => (h.n j hj).up l⟩
theorem VB.den {M : Nat → Int} {m b w : Nat} {u : Nat → Rat} (h : VB M b w u) (k : MB M m w) {j : Nat} (hj : j < w) : Bt m ((u j).den : Int) := by
  refine (k.b j hj).le ?_
  have := k.p j hj
  exact Nat.le_of_dvd (by omega) (Int.natAbs_dvd_natAbs.mpr (h.d j hj))
theorem dvd_bt {b : Nat} {x y : Int} (h : x ∣ y) (z : y ≠ 0) (k : Bt b y) : Bt b x := k.le (Nat.le_of_dvd (by omega) (Int.natAbs_dvd_natAbs.mpr h))
/-- the factor: its sizes -/
theorem part_bt {M : Nat → Int} {m b1 b2 w l : Nat} {u v : Nat → Rat} (hu : VB M b1 w u) (hv : VB M b2 w v) (k : MB M m w) (hl : l < w) (u0 : u l ≠ 0) (v0 : v l ≠ 0) :
    Bt (b1 + m) (u l / v l).num ∧ Bt (m + b2) ((u l / v l).den : Int) := by
  have e1 := nd (u l)
  have e2 := nd (v l)
  have d1 := den0 (u l)
  have d2 := den0 (v l)
  have n1 : (u l).num ≠ 0 := fun z => u0 (num0.mp z)
  have n2 : (v l).num ≠ 0 := fun z => v0 (num0.mp z)
  have p1 : ((u l).den : Int) ≠ 0 := by have := (u l).den_pos; omega
  have p2 : ((v l).den : Int) ≠ 0 := by have := (v l).den_pos; omega
  have e : (((u l).num * ((v l).den : Int) : Int) : Rat) = u l / v l * (((((u l).den : Int) * (v l).num) : Int) : Rat) := by
    rw [Rat.intCast_mul, Rat.intCast_mul, e1, e2]
    grind
  obtain ⟨q1, q2⟩ := den_dvd (Int.mul_ne_zero p1 n2) e
  refine ⟨dvd_bt q2 (Int.mul_ne_zero n1 p2) ((hu.n l hl).mul (hv.den k hl)), dvd_bt q1 (Int.mul_ne_zero p1 n2) ((hu.den k hl).mul (hv.n l hl))⟩
/-- the tops and bottoms that freeing makes -/
def bt (u v : Nat → Rat) (j : Nat) : Int := ((Nat.lcm (u j).den (v j).den : Nat) : Int)
def tp (u v : Nat → Rat) (l j : Nat) : Int := (u j).num * (bt u v j).fdiv ((u j).den : Int) * ((u l / v l).den : Int) - (v j).num * (bt u v j).fdiv ((v j).den : Int) * (u l / v l).num
theorem bt_pos (u v : Nat → Rat) (j : Nat) : 0 < bt u v j := by
  unfold bt
  have : 0 < Nat.lcm (u j).den (v j).den := Nat.lcm_pos (u j).den_pos (v j).den_pos
  omega
theorem bt_l (u v : Nat → Rat) (j : Nat) : ((u j).den : Int) ∣ bt u v j := by
  unfold bt
  exact Int.natCast_dvd_natCast.mpr (Nat.dvd_lcm_left _ _)
theorem bt_r (u v : Nat → Rat) (j : Nat) : ((v j).den : Int) ∣ bt u v j := by
  unfold bt
  exact Int.natCast_dvd_natCast.mpr (Nat.dvd_lcm_right _ _)
theorem bt_dvd {M : Nat → Int} {m b1 b2 w j : Nat} {u v : Nat → Rat} (hu : VB M b1 w u) (hv : VB M b2 w v) (k : MB M m w) (hj : j < w) : bt u v j ∣ M j := by
  unfold bt
  have h1 := Int.natAbs_dvd_natAbs.mpr (hu.d j hj)
  have h2 := Int.natAbs_dvd_natAbs.mpr (hv.d j hj)
  refine Int.natAbs_dvd_natAbs.mp ?_
  rw [Int.natAbs_natCast] at *
  exact Nat.lcm_dvd h1 h2
theorem tp_eq (u v : Nat → Rat) (l j : Nat) : ((tp u v l j : Int) : Rat) = ((u l / v l).den : Int) * (u j - u l / v l * v j) * ((bt u v j : Int) : Rat) := by
  have c1 := RT.fdiv_of_dvd (by have := (u j).den_pos; omega) (bt_l u v j)
  have c2 := RT.fdiv_of_dvd (by have := (v j).den_pos; omega) (bt_r u v j)
  have e1 := nd (u j)
  have e2 := nd (v j)
  have e3 := nd (u l / v l)
  have r1 : (((bt u v j).fdiv ((u j).den : Int) : Int) : Rat) * (((u j).den : Int) : Rat) = ((bt u v j : Int) : Rat) := by rw [← Rat.intCast_mul, c1]
  have r2 : (((bt u v j).fdiv ((v j).den : Int) : Int) : Rat) * (((v j).den : Int) : Rat) = ((bt u v j : Int) : Rat) := by rw [← Rat.intCast_mul, c2]
  unfold tp
  rw [Rat.intCast_sub, Rat.intCast_mul, Rat.intCast_mul, Rat.intCast_mul, Rat.intCast_mul]
  generalize (((bt u v j).fdiv ((u j).den : Int) : Int) : Rat) = q1 at *
  generalize (((bt u v j).fdiv ((v j).den : Int) : Int) : Rat) = q2 at *
  generalize ((bt u v j : Int) : Rat) = B at *
  generalize u l / v l = c at *
  generalize ((c.den : Int) : Rat) = cd at *
  generalize (((u j).den : Int) : Rat) = ud at *
  generalize (((v j).den : Int) : Rat) = vd at *
  generalize ((u j).num : Rat) = un at *
  generalize ((v j).num : Rat) = vn at *
  generalize (c.num : Rat) = cn at *
  subst e1 e2 e3
  grind
theorem quot_bt {m : Nat} {x y : Int} (h : y ∣ x) (hy : y ≠ 0) (k : Bt m x) : Bt m (x.fdiv y) := by
  have e := RT.fdiv_of_dvd hy h
  refine k.le ?_
  rw [← congrArg Int.natAbs e, Int.natAbs_mul]
  exact Nat.le_mul_of_pos_right _ (by omega)
theorem tp_bt {M : Nat → Int} {m b1 b2 w l j : Nat} {u v : Nat → Rat} (hu : VB M b1 w u) (hv : VB M b2 w v) (k : MB M m w) (hl : l < w) (hj : j < w) (u0 : u l ≠ 0) (v0 : v l ≠ 0) :
    Bt m (bt u v j) ∧ Bt (b1 + m) ((u j).num * (bt u v j).fdiv ((u j).den : Int)) ∧ Bt (b2 + m) ((v j).num * (bt u v j).fdiv ((v j).den : Int)) ∧ Bt (b1 + b2 + 2 * m + 1) (tp u v l j) := by
  obtain ⟨c1, c2⟩ := part_bt hu hv k hl u0 v0
  have B : Bt m (bt u v j) := dvd_bt (bt_dvd hu hv k hj) (by have := k.p j hj; omega) (k.b j hj)
  have q1 := quot_bt (bt_l u v j) (by have := (u j).den_pos; omega) B
  have q2 := quot_bt (bt_r u v j) (by have := (v j).den_pos; omega) B
  have t1 := (hu.n j hj).mul q1
  have t2 := (hv.n j hj).mul q2
  refine ⟨B, t1, t2, ?_⟩
  exact ((t1.mul c2).up (by omega)).sub ((t2.mul c1).up (by omega))
end VM

set_option Elab.async false
set_option maxRecDepth 100000
namespace VM
open RQ
/-- the greatest factor of the first k -/
def gf (z : Nat → Int) : Nat → Nat
  | 0 => 0
  | k + 1 => Nat.gcd (gf z k) (z k).natAbs
theorem gf_dvd {z : Nat → Int} : ∀ {k j : Nat}, j < k → ((gf z k : Nat) : Int) ∣ z j
  | 0, _, h => absurd h (by omega)
  | k + 1, j, h => by
    unfold gf
    by_cases e : j = k
    · subst e
      exact Int.natAbs_dvd_natAbs.mp (by rw [Int.natAbs_natCast]; exact Nat.gcd_dvd_right _ _)
    · have := gf_dvd (z := z) (k := k) (j := j) (by omega)
      exact Int.dvd_trans (Int.natCast_dvd_natCast.mpr (Nat.gcd_dvd_left _ _)) this
theorem gf_pos {z : Nat → Int} : ∀ {k j : Nat}, j < k → z j ≠ 0 → 0 < gf z k
  | 0, _, h, _ => absurd h (by omega)
  | k + 1, j, h, n => by
    unfold gf
    by_cases e : j = k
    · subst e
      exact Nat.gcd_pos_of_pos_right _ (by omega)
    · exact Nat.gcd_pos_of_pos_left _ (gf_pos (z := z) (k := k) (j := j) (by omega) n)
def bz (u v : Nat → Rat) (l j : Nat) : Int := if tp u v l j = 0 then 0 else bt u v j
theorem sub_cast (a b : Int) : ((a - b : Int) : Rat) = (a : Rat) - (b : Rat) := Rat.intCast_sub a b
/-- what freeing makes of each place -/
theorem freed {M : Nat → Int} {m b1 b2 w l : Nat} {u v : Nat → Rat} (hu : VB M b1 w u) (hv : VB M b2 w v) (k : MB M m w) (hl : l < w) (u0 : u l ≠ 0) (v0 : v l ≠ 0) :
    ∃ u' : Nat → Rat, Less w l u v u' ∧ VB M (b1 + b2 + 2 * m + 1) w u' ∧ ∀ j, j < w →
      (tp u v l j = 0 → u' j = 0) ∧
      (tp u v l j ≠ 0 → ((gf (tp u v l) w : Nat) : Int) ≠ 0 ∧ ((gf (bz u v l) w : Nat) : Int) ≠ 0 ∧ (bt u v j).fdiv ((gf (bz u v l) w : Nat) : Int) ≠ 0 ∧
        RT.top ((tp u v l j).fdiv ((gf (tp u v l) w : Nat) : Int)) ((bt u v j).fdiv ((gf (bz u v l) w : Nat) : Int)) = (u' j).num ∧
        RT.bot ((tp u v l j).fdiv ((gf (tp u v l) w : Nat) : Int)) ((bt u v j).fdiv ((gf (bz u v l) w : Nat) : Int)) = ((u' j).den : Int)) := by
  have cd := den0 (u l / v l)
  by_cases all : ∀ j, j < w → tp u v l j = 0
  · refine ⟨fun _ => 0, ⟨1, by decide, fun j hj => ?_⟩, ⟨fun j hj => ⟨M j, by show M j = 1 * M j; rw [Int.one_mul]⟩, fun j hj => ?_⟩, fun j hj => ⟨fun _ => rfl, fun n => absurd (all j hj) n⟩⟩
    · have e := tp_eq u v l j
      rw [all j hj] at e
      have b0 := i0 (show bt u v j ≠ 0 by have := bt_pos u v j; omega)
      have e0 : ((0 : Int) : Rat) = 0 := rfl
      rw [e0] at e
      grind
    · show Bt _ (0 : Rat).num
      exact Nat.two_pow_pos _
  · obtain ⟨i, hi, hn⟩ : ∃ i, i < w ∧ tp u v l i ≠ 0 := by
      refine Classical.byContradiction fun no => all fun j hj => Classical.byContradiction fun n => no ⟨j, hj, n⟩
    have A0 := gf_pos (z := tp u v l) hi hn
    have bn : bz u v l i ≠ 0 := by unfold bz; rw [if_neg hn]; have := bt_pos u v i; omega
    have B0 := gf_pos (z := bz u v l) hi bn
    generalize hA : gf (tp u v l) w = A at *
    generalize hB : gf (bz u v l) w = B at *
    have A1 : ((A : Nat) : Int) ≠ 0 := by omega
    have B1 : ((B : Nat) : Int) ≠ 0 := by omega
    have A2 := i0 A1
    have B2 := i0 B1
    have s0 : ((B : Int) : Rat) / ((A : Int) : Rat) * (((u l / v l).den : Int) : Rat) ≠ 0 := by
      intro z; grind
    have val : ∀ j, j < w → tp u v l j ≠ 0 → ((B : Nat) : Int) ∣ bt u v j ∧ (bt u v j).fdiv ((B : Nat) : Int) ≠ 0 ∧
        (((tp u v l j).fdiv ((A : Nat) : Int) : Int) : Rat) = ((B : Int) : Rat) / ((A : Int) : Rat) * (((u l / v l).den : Int) : Rat) * (u j - u l / v l * v j) * (((bt u v j).fdiv ((B : Nat) : Int) : Int) : Rat) := fun j hj n => by
      have dA : ((A : Nat) : Int) ∣ tp u v l j := by rw [← hA]; exact gf_dvd hj
      have dB : ((B : Nat) : Int) ∣ bt u v j := by
        have := gf_dvd (z := bz u v l) hj
        rw [hB] at this
        unfold bz at this
        rw [if_neg n] at this
        exact this
      have f1 := RT.fdiv_of_dvd A1 dA
      have f2 := RT.fdiv_of_dvd B1 dB
      have bp := bt_pos u v j
      have ne : (bt u v j).fdiv ((B : Nat) : Int) ≠ 0 := fun z => by rw [z, Int.zero_mul] at f2; omega
      refine ⟨dB, ne, ?_⟩
      have e := tp_eq u v l j
      have g1 : (((tp u v l j).fdiv ((A : Nat) : Int) : Int) : Rat) * ((A : Int) : Rat) = ((tp u v l j : Int) : Rat) := by rw [← Rat.intCast_mul, f1]
      have g2 : (((bt u v j).fdiv ((B : Nat) : Int) : Int) : Rat) * ((B : Int) : Rat) = ((bt u v j : Int) : Rat) := by rw [← Rat.intCast_mul, f2]
      rw [e] at g1
      grind
    refine ⟨fun j => ((B : Int) : Rat) / ((A : Int) : Rat) * (((u l / v l).den : Int) : Rat) * (u j - u l / v l * v j), ⟨_, s0, fun _ _ => rfl⟩, ⟨fun j hj => ?_, fun j hj => ?_⟩, fun j hj => ⟨fun z => ?_, fun n => ?_⟩⟩
    · by_cases n : tp u v l j = 0
      · have e := tp_eq u v l j
        rw [n] at e
        have b0 := i0 (show bt u v j ≠ 0 by have := bt_pos u v j; omega)
        have e0 : ((0 : Int) : Rat) = 0 := rfl
        rw [e0] at e
        have x0 : u j - u l / v l * v j = 0 := by grind
        show ((((B : Int) : Rat) / ((A : Int) : Rat) * (((u l / v l).den : Int) : Rat) * (u j - u l / v l * v j)).den : Int) ∣ M j
        rw [x0, Rat.mul_zero]
        exact ⟨M j, by show M j = 1 * M j; rw [Int.one_mul]⟩
      · obtain ⟨dB, ne, e⟩ := val j hj n
        have d1 := (den_dvd ne e).1
        refine Int.dvd_trans d1 (Int.dvd_trans ?_ (bt_dvd hu hv k hj))
        exact ⟨((B : Nat) : Int), (RT.fdiv_of_dvd B1 dB).symm⟩
    · by_cases n : tp u v l j = 0
      · have e := tp_eq u v l j
        rw [n] at e
        have b0 := i0 (show bt u v j ≠ 0 by have := bt_pos u v j; omega)
        have e0 : ((0 : Int) : Rat) = 0 := rfl
        rw [e0] at e
        have x0 : u j - u l / v l * v j = 0 := by grind
        show Bt _ (((B : Int) : Rat) / ((A : Int) : Rat) * (((u l / v l).den : Int) : Rat) * (u j - u l / v l * v j)).num
        rw [x0, Rat.mul_zero]
        exact Nat.two_pow_pos _
      · obtain ⟨dB, ne, e⟩ := val j hj n
        have d1 := (den_dvd ne e).2
        have dA : ((A : Nat) : Int) ∣ tp u v l j := by rw [← hA]; exact gf_dvd hj
        have f1 := RT.fdiv_of_dvd A1 dA
        have z1 : (tp u v l j).fdiv ((A : Nat) : Int) ≠ 0 := fun z => by rw [z, Int.zero_mul] at f1; exact n f1.symm
        exact dvd_bt d1 z1 (quot_bt dA A1 (tp_bt hu hv k hl hj u0 v0).2.2.2)
    · have e := tp_eq u v l j
      rw [z] at e
      have b0 := i0 (show bt u v j ≠ 0 by have := bt_pos u v j; omega)
      have e0 : ((0 : Int) : Rat) = 0 := rfl
      rw [e0] at e
      have x0 : u j - u l / v l * v j = 0 := by grind
      show ((B : Int) : Rat) / ((A : Int) : Rat) * (((u l / v l).den : Int) : Rat) * (u j - u l / v l * v j) = 0
      rw [x0, Rat.mul_zero]
    · obtain ⟨dB, ne, e⟩ := val j hj n
      obtain ⟨q1, q2⟩ := low ne e
      exact ⟨A1, B1, ne, q1, q2⟩
end VM

set_option Elab.async false
set_option maxRecDepth 100000
namespace RX
open PySem PySem.Spec PyProof.Rows L2
section
variable {prog : Program} {w : World} {A : Around} {E : Value → Shared → Prop} {s : Shared}
/-- T(..), T a built-in type made by its own __new__, by what that one does here -/
theorem type_by {T newId : String} {Bn : Builtin} {args : List Value} {Q : Value → Shared → Prop} (ft : TypeCalled T newId "object.__init__")
    (hne : (some newId != some "object.__new__") = true) (hct : checkTypeCall T ⟨args, []⟩ = pure ())
    (hcn : checkBuiltinCall newId ⟨.type T :: args, []⟩ = pure ()) (hok : ∀ obj, argsOk "object.__init__" ⟨obj :: args, []⟩)
    (eN : entryFor table newId = some Bn)
    (hg : wpAny (model prog w) A.in1.in1 (Bn ⟨.type T :: args, []⟩) (fun fin s' => ∃ v, fin = .done (.ret v) ∧ s'.TypeIs v T ∧ Q v s') E s) :
    wpAny (model prog w) A (call (.type T) args) Q E s := by
  obtain ⟨c, tl, m1⟩ := ft.mro
  have m2 := ft.made
  have m3 := ft.sub
  apply wpAny_call
  apply codeAny_of_tree
  show wpAny _ _ (callAny (.type T) _) _ _ _
  refine wpAny_pure ⟨Code.quiet_builtin _
    (by decide +kernel), codeAny_builtin
    F.entry_type_call ?_⟩
  rw [Around.under_plain
    (weight_type_call_type T args [])
    (units_type_call_type T args [])]
  have m4 := ft.notType
  have m5 := ft.canCreate
  repeat (any_goals (first | assumption | wp_step))
  refine codeAny_mono (R := wants (fun v s' => s'.TypeIs v T ∧ Q v s') E) (codeAny_call_builtin
    ft.plain eN (wpAny_of_eq
      hcn (wpAny_mono hg (fun fin s' z => ?_) fun _ _ z => z))) fun r s1 hr => ?_
  · obtain ⟨v, rfl, z⟩ := z
    exact z
  cases r with
  | error e => exact hr
  | ok fl =>
    cases fl with
    | ret obj =>
      obtain ⟨hT, q⟩ := hr
      have n1 := ft.init.lookup
      have n2 := ft.init.bind obj
      repeat (any_goals (first | assumption | wp_step))
      refine codeAny_mono (R := wants (fun v s' => v = .none ∧ Q obj s') E) (codeAny_call_builtin
        ft.init.plain F.entry_object_init
        (ft.init.check _ _ _ _ _ _ _ _ hT (hok obj)
          (object_init_meets (rest := args) n1 m2 hne prog w A.in1 (wants (fun v s' => v = .none ∧ Q obj s') E) s1 ⟨hT, rfl, q⟩))) fun r2 s2 h2 => ?_
      cases r2 with
      | error e => exact h2
      | ok f2 =>
        cases f2 with
        | ret r =>
          obtain ⟨rfl, q2⟩ := h2
          repeat (any_goals (first | assumption | wp_step))
        | next => exact False.elim h2
        | brk => exact False.elim h2
        | cont => exact False.elim h2
    | next => exact False.elim hr
    | brk => exact False.elim hr
    | cont => exact False.elim hr
/-- bool(x), by what x's truth is where bool's own body runs -/
theorem bool_of {x : Value} {Q : Value → Shared → Prop}
    (h : wpAny (model prog w) A.in1.in1 (truthy x) (fun b s' => Q (.bool b) s') E s) :
    wpAny (model prog w) A (call (.type "bool") [x]) Q E s := by
  refine type_by F.called_bool F.newNe_bool (F.typeCall_bool_1 x) (F.newCall_bool_1 x) (fun obj => F.args_object_init_2 obj x) F.entry_bool_new ?_
  have f1 := F.conv_sub_bool
  obtain ⟨hp, g, d, tk, os⟩ := s
  repeat (any_goals (first | assumption | (with_reducible refine wpAny_bind (wpAny_mono h (fun b s' z => ?_) fun _ _ z => z)) | wp_step))
  exact ⟨_, rfl, rfl, z⟩
end
section
variable {X : Cx} {CX : CXT} {k : Nat} {C f : Addr} {fd : FuncData} {ps : List Str} {sp : Sp} {E : XK}
/-- bool(o), o an instance of the class at C, which has the def at f as its __bool__ -/
theorem call_boolOwn (hs : PySem.W.findIn X.K (.ref C) "__bool__" = some (some (.ref f))) (hf : PySem.W.isFn X.K (.ref f) = true) (F : FnOk X.prog X.w X.K X.mg X.base CX k f fd ps sp) (hr : Room (k + 2) X.A) (hb : Binds X.K fd ps []) (hx : Passes CX X E) :
    CallR X (.type "bool") (fun xs H Q => ∃ a dx fs, xs = [.ref a] ∧ H a = some (.ins C dx fs) ∧ sp [.ref a] H (fun v H' => ∃ b, v = .bl b ∧ Q (.bl b) H') E) := by
  intro pins s σ H xs us Q I r h
  obtain ⟨a, dx, fs, rfl, ha, hsp⟩ := h
  obtain rfl := Vals.ref1 r
  obtain ⟨mA, J, _⟩ := ins_get I.hok ha
  obtain ⟨od, J, _⟩ := J.look
  obtain ⟨m, hF⟩ := I.fr
  refine bool_of (PySem.W.truthy_K hF I.ok.mod.kin J hs hf ?_)
  have hl := F.len _ _ _ _ hsp
  refine wpAny_call (codeAny_mono (F.run X.A.in1.in1 X.stack s H ⟨[.ref a], []⟩ [.ref a] [.ref a] _ E hr.in1.in1 I.env0.in1.in1 (by
    have := hb s [.ref a] I.kIn (by simpa using hl)
    simpa using this) (.cons rfl .nil) hsp) fun r' s' hq => ?_)
  cases r' with
  | error e => exact hx pins σ H s e s' I hq
  | ok fl =>
    cases fl with
    | ret u =>
      obtain ⟨z, H', I', rz, b, ez, q⟩ := I.after hq
      subst ez
      cases rz
      exact ⟨.bl b, H', I', rfl, q⟩
    | next => exact False.elim hq
    | brk => exact False.elim hq
    | cont => exact False.elim hq
/-- o == y, o an instance of the class at C, which has the def at f as its __eq__; y of a known type that is not below that class, or of it -/
theorem op_eqOwn (hs : PySem.W.findIn X.K (.ref C) "__eq__" = some (some (.ref f))) (hf : PySem.W.isFn X.K (.ref f) = true) (F : FnOk X.prog X.w X.K X.mg X.base CX k f fd ps sp) (hr : Room k X.A) (hb : Binds X.K fd ps []) (hx : Passes CX X E) :
    OpR X (compareOp .Eq) (fun x y H Q => ∃ a dx fs t, x = .ref a ∧ H a = some (.ins C dx fs) ∧ TyX X.K H y t ∧ PySem.W.notFirst X.K C t = true ∧ sp [.ref a, y] H (fun v H' => ∃ b, v = .bl b ∧ Q (.bl b) H') E) := by
  intro pins s σ H x y v u Q I rx ry h
  obtain ⟨a, dx, fs, t, rfl, ha, ty, hn, hsp⟩ := h
  cases rx
  obtain ⟨mA, J, _⟩ := ins_get I.hok ha
  obtain ⟨od, J, _⟩ := J.look
  obtain ⟨m, hF⟩ := I.fr
  obtain ⟨P, Z, p, _⟩ := kit_of I ry ty
  show wpAny (model X.prog X.w) X.A (richCompare .Eq (.ref a) u) (EP X pins σ Q) X.xe s
  refine PySem.W.cmp_K (op := .Eq) hr.units0 hF I.ok.mod.kin J (Z.ty _ _ I.kIn p) hn hs hf ?_
  refine thn (run_fn (us := [.ref a, u]) (vs := [.ref a, y]) (dvs := []) (ds := []) F hr hb .nil hx I (.cons rfl (.cons ry .nil)) hsp) fun w' s' hq => ?_
  obtain ⟨z, H', I', rz, b, ez, q⟩ := hq
  subst ez
  cases rz
  exact ⟨.bl b, H', I', rfl, q⟩
end
end RX

set_option Elab.async false
set_option maxRecDepth 100000
/-! enumerate of a tuple -/
namespace ET
open PySem PySem.Spec PyProof.Rows L2
section
variable {prog : Program} {w : World} {A : Around} {E : Value → Shared → Prop} {s : Shared}
abbrev itO (t : Addr) : Obj := { cls := .type "tuple_iterator", data := .fields #[.ref t, .int 0 0] }
abbrev enO (n : Nat) : Obj := { cls := .type "enumerate", data := .fields #[.none, .bool false, .ref n, rawInt 0, .none, .none] }
set_option maxHeartbeats 1000000 in
theorem newT (t : Addr) (its : Array Value) : Meets (Builtin.«enumerate.__new__» ⟨[.type "enumerate", .ref t], []⟩)
    (fun _ R s => s.heap.IsTuple t its ∧ R (.ok (.ret (.ref (s.heap.push (itO t)).objs.size))) { s with heap := (s.heap.push (itO t)).push (enO s.heap.objs.size) }) :=
  .of_wp fun prog w A R s z => by
    obtain ⟨hp, g, d, tk, os⟩ := s
    obtain ⟨y, z⟩ := z
    have sub := sub_enumerate
    have pi : ∀ {A' : Around} {E Q : Value → Shared → Prop}, Q (.ref hp.objs.size) ⟨hp.push (itO t), g, d, tk, os⟩ → wpAny (model prog w) A' (pyIter (.ref t)) Q E ⟨hp, g, d, tk, os⟩ :=
      fun q => (begins_tuple t its).iter prog w _ _ ⟨hp, g, d, tk, os⟩ _ y q
    wp_walk using pi
    refine wpAny_stack_any fun st =>
      wpAny_pure ?_
    split
    · rename_i cc _ _ _ _ _
      cases (cc == Value.type "enumerate") <;> (wp_walk using pi) <;> exact ⟨_, rfl, z⟩
    · wp_walk using pi
      exact ⟨_, rfl, z⟩
theorem callT {t : Addr} {its : Array Value} {Q : Value → Shared → Prop} (y : s.heap.IsTuple t its)
    (h : ∀ h', IsEnum h' (s.heap.objs.size + 1) s.heap.objs.size 0 .none → h'.IsTupleIter s.heap.objs.size t 0 → (∀ b o, s.heap.get? b = some o → h'.get? b = some o) → Q (.ref (s.heap.objs.size + 1)) { s with heap := h' }) :
    wpAny (model prog w) A (call (.type "enumerate") [.ref t]) Q E s := by
  refine callType_new F.called_enumerate (by decide) (F.typeCall_enumerate_1 _)
    (F.newCall_enumerate_1 _) (fun obj => F.args_object_init_2 obj _) F.entry_enumerate_new (newT t its) ⟨y, ?_⟩
  have sz : (s.heap.push (itO t)).objs.size = s.heap.objs.size + 1 := Heap.size_push ..
  have e1 : ((s.heap.push (itO t)).push (enO s.heap.objs.size)).get? (s.heap.objs.size + 1) = some (enO s.heap.objs.size) := by
    rw [← sz]
    exact Heap.get?_push_size _ rfl
  have e2 := h _ e1 ⟨itO t, Heap.get?_push_of_some _ (Heap.get?_push_size _ rfl), rfl, rfl⟩ fun b o z => Heap.get?_push_of_some _ (Heap.get?_push_of_some _ z)
  show _ ∧ _
  rw [sz]
  exact ⟨⟨_, e1, rfl⟩, e2⟩
end
/-- the tuple at a as it stands at each turn, its place and item in a new pair -/
def IteT (K : PySem.W.Frag) (a : Addr) : It where
  go := fun i H => ∃ (xs : List V) (x : V), SqT K H a xs ∧ xs[i]? = some x
  yld := fun i H v H' => ∃ T x, v = .ref T ∧ H T = none ∧ H' = upd H T (.tup [.int (i : Nat), x]) ∧ ∀ xs, SqT K H a xs → xs[i]? = some x
  stop := fun i H => ∃ xs : List V, SqT K H a xs ∧ xs.length ≤ i
theorem turnT {P : Program} {w : World} {K : PySem.W.Frag} {elts : List Expr} {kk : Nat} {tpos : Pos} (a e it : Addr) :
    Turn P w K (.Tuple elts kk tpos) (IteT K a) [e, it] e (fun i h => (∃ old, IsEnum h e it ((i : Nat) : Int) old) ∧ h.IsTupleIter it a i ∧ e ≠ it ∧ a ≠ it ∧ a ≠ e) where
  mem := List.mem_cons_self
  obj := fun i h st b hb => by
    obtain ⟨⟨old, he⟩, ⟨o, ho, _, hd⟩, _⟩ := st
    rcases List.mem_cons.mp hb with rfl | hb
    · exact ⟨_, he, fun v q => nomatch q⟩
    · obtain rfl := List.mem_singleton.mp hb
      exact ⟨o, ho, fun v q => by rw [hd] at q; cases q⟩
  keep := fun i h h' st k => by
    obtain ⟨⟨old, he⟩, hi, n⟩ := st
    have me : e ∈ [e, it] := List.mem_cons_self
    have mi : it ∈ [e, it] := List.mem_cons_of_mem _ List.mem_cons_self
    exact ⟨⟨old, k e me _ he⟩, hi.at fun o q => k it mi o q, n⟩
  item := by
    intro X eP ew eK hc i pins s σ H E I hf st hg
    subst eP ew eK
    obtain ⟨⟨old, he⟩, hit, nei, nai, nae⟩ := st
    obtain ⟨xs, x, hq, hx⟩ := hg
    obtain ⟨its, rv, p, hz⟩ := I.tuple hq
    obtain ⟨u, hu, ru⟩ := rv.get hx
    have le : e < s.heap.objs.size := Heap.lt_size he
    have li : it < s.heap.objs.size := let ⟨_, q, _⟩ := hit; Heap.lt_size q
    have hnd : X.A.in1.handled = none := I.ok.hd hc
    have lt : i < its.toArray.size := by
      rw [List.size_toArray]
      exact (List.getElem?_eq_some_iff.mp hu).1
    have ne2 : e ∉ [it, a] := fun z => by
      rcases List.mem_cons.mp z with z | z
      · exact nei z
      · exact nae (List.mem_singleton.mp z).symm
    refine wpAny_pyNext_enum_itemD (Draws.tuple hnd it a nai its.toArray) he ⟨hit, p⟩ lt nei ne2 fun x' h' tk px ho st' hT sz hk => ?_
    have ex : x' = u := by
      have px : its.toArray[i]? = some x' := px
      rw [List.getElem?_toArray, hu] at px
      exact (Option.some.inj px).symm
    subst ex
    refine ⟨_, rfl, wpAny_letOwnedTupleGo_enum (s := { s with heap := h', toks := tk + 1 }) ho fun h2 he2 sb => ?_⟩
    have T2 : h2.get? s.heap.objs.size = some { cls := .type "tuple", data := .seq #[.int i tk, x'] } := (sb.2 _ (Nat.ne_of_gt le)).trans hT
    have J : Inv X pins σ (upd H s.heap.objs.size (.tup [.int (i : Nat), x])) { s with heap := h2, toks := tk + 1 } := by
      refine I.turnedNew (ch := [e, it]) (fun b ob hb q => ?_) hf (Nat.le_refl _) ⟨(by show 2 ≤ sizeLine; decide), [.int i tk, x'], .cons ⟨_, rfl⟩ (.cons ru .nil), ⟨_, T2, rfl, _, rfl⟩⟩
      have n1 : b ≠ e := fun z => hb (by rw [z]; exact List.mem_cons_self)
      have n2 : b ≠ it := fun z => hb (by rw [z]; exact List.mem_cons_of_mem _ List.mem_cons_self)
      exact (sb.2 b n1).trans (hk b ob n1 n2 q)
    refine ⟨.ref s.heap.objs.size, _, J, rfl, ⟨_, x, rfl, I.hok.fresh (Nat.le_refl _), rfl, fun ys hy => by rw [I.tuple_inj hy hq]; exact hx⟩, ⟨⟨x', ?_⟩, ?_, nei, nai, nae⟩, fun b hb => ?_⟩
    · rw [show ((i + 1 : Nat) : Int) = (i : Int) + 1 from rfl]
      exact he2
    · exact st'.1.at fun o q => (sb.2 it nei.symm).trans q
    · have lb : b < s.heap.objs.size := by
        rcases List.mem_cons.mp hb with z | z
        · rw [z]; exact le
        · rw [List.mem_singleton.mp z]; exact li
      rw [upd_ne (Nat.ne_of_lt lb)]
      exact (hf b hb).1
  done := by
    intro X eP ew eK hc i pins s σ H E I hf st hg
    subst eP ew eK
    obtain ⟨⟨old, he⟩, hit, nei, nai, nae⟩ := st
    obtain ⟨xs, hq, hx⟩ := hg
    obtain ⟨its, rv, p, hz⟩ := I.tuple hq
    have hnd : X.A.in1.handled = none := I.ok.hd hc
    have hl := rv.length
    obtain ⟨f0, f1, f2, f3, f4, f5⟩ := hf it (List.mem_cons_of_mem _ List.mem_cons_self)
    have dr : Draws X.prog X.w X.A.in1 it [it, a] i (fun _ _ => True) (fun k h => k = i ∧ h.IsTupleIter it a i ∧ h.IsTuple a its.toArray) := by
      have d0 := Draws.tuple (prog := X.prog) (w := X.w) hnd it a nai its.toArray
      exact {
        live := fun k h st => d0.live i h st.2
        frame := fun k h h' st hk => ⟨st.1, d0.frame i h h' st.2 hk⟩
        item := fun k s Q E hi st hQ => absurd hi (by rw [st.1]; exact Nat.lt_irrefl _)
        done := fun s Q E st hE => PySem.wpAny_nextOf_tuple_end hnd st.2.1 st.2.2 (Array.getElem?_eq_none (by rw [List.size_toArray]; omega)) hE }
    exact wpAny_pyNext_enum_endD dr he ⟨rfl, hit, p⟩ fun h' eb => ⟨rfl, I.turned (t' := s.toks) (fun b o hb q => eb b o hb q) f0 f1 f3 f4 f5⟩
  self := fun A i s Q E st h => by
    obtain ⟨⟨_, he⟩, _⟩ := st
    exact wpAny_pyIter_enum he h
def iEnumT (K : PySem.W.Frag) (ta : TA) : TI := fun σ H R => ta σ H fun vs H1 => ∃ a xs, vs = [.ref a] ∧ SqT K H1 a xs ∧ R (IteT K a) H1
theorem pi_enumT {X : Cx} {e : Expr} {ta : TA} {p pos tpos : Pos} {elts : List Expr} {kk : Nat} (hg : Gl X "enumerate") (hm : X.mg "enumerate" = none) (ha : PA X [e] ta) (hs : starEach [e] X.env = [(false, eval e X.env)] := by rfl) :
    PI X (.Tuple elts kk tpos) (.Call (.Name "enumerate" p) [e] [] pos) (iEnumT X.K ta) := by
  constructor
  intro pins s σ H R I h
  refine Call_ (ld_blt I hg hm boot_enumerate (PyProof.Rows.callWith_type1 (thn (ha.run pos pins s σ H _ I h) fun us s1 z => ?_) hs rfl))
  obtain ⟨vs, H1, I1, r1, a, xs, rfl, hq, q⟩ := z
  obtain rfl := Vals.ref1 r1
  obtain ⟨its, rv, py, hz⟩ := I1.tuple hq
  refine callT py fun h' he hit hk => wpAny_pyIter_enum he ?_
  have la : a < s1.heap.objs.size := let ⟨_, q, _⟩ := py; Heap.lt_size q
  have fp : ∀ b ∈ [s1.heap.objs.size + 1, s1.heap.objs.size], FpOk X pins H1 b := fun b hb => by
    have lb : s1.heap.objs.size ≤ b := by
      rcases List.mem_cons.mp hb with z | z
      · rw [z]; exact Nat.le_succ _
      · rw [List.mem_singleton.mp z]; exact Nat.le_refl _
    exact I1.fpOk lb (I1.hok.fresh lb)
  have n1 : a ≠ s1.heap.objs.size := Nat.ne_of_lt la
  have n2 : a ≠ s1.heap.objs.size + 1 := Nat.ne_of_lt (Nat.lt_succ_of_lt la)
  exact ⟨_, _, _, _, H1, rfl, I1.kept (t' := s1.toks) hk, turnT a _ _, ⟨⟨.none, he⟩, hit, Nat.succ_ne_self _, n1, n2⟩, fp, q⟩
end ET

set_option Elab.async false
set_option maxRecDepth 100000
namespace RX
open PySem L2 VM
open RQ (Hg Bt)
/-! ### the parts of reduced -/
abbrev sOver : Stmt := inClass (topS 6) 8
abbrev sBool : Stmt := inClass (topS 6) 6
abbrev sLead : Stmt := topS 9
abbrev sOne : Stmt := topS 15
abbrev sFreed : Stmt := topS 16
abbrev sShared : Stmt := topS 8
/-- the Ratio of a number -/
abbrev RatQ (C : Addr) (H : Hp) (p : Addr) (q : Rat) : Prop := RatAt C H p q.num (q.den : Int)
/-- a tuple of the Ratios of numbers -/
abbrev RowQ (C : Addr) (H : Hp) (p : Addr) (w : Nat) (a : Nat → Addr) (u : Nat → Rat) : Prop := RowAt C H p w a (fun j => (u j).num) (fun j => ((u j).den : Int))
def HgQ (q : Rat) : Prop := Hg q.num ∧ Hg (q.den : Int)
section
variable {X : Cx} {CX : CXT} {k : Nat} {C f : Addr} {fd : FuncData} {ps : List Str} {sp : Sp} {E : XK} {a : Expr} {ta : TE}
/-- the truth of an instance by its class's own __bool__ -/
theorem pt_own (hs : PySem.W.findIn X.K (.ref C) "__bool__" = some (some (.ref f))) (hf : PySem.W.isFn X.K (.ref f) = true) (F : FnOk X.prog X.w X.K X.mg X.base CX k f fd ps sp) (hr : Room k X.A) (hb : Binds X.K fd ps []) (hx : Passes CX X E)
    (ha : PE X a ta) (he : ∀ whole, PySem.isTrue a X.env whole = (do let v ← whole; standAt a.pos; holding [v] (truthy v))) :
    PT X a (fun σ H Q => ta σ H fun x H1 => ∃ p dx fs, x = .ref p ∧ H1 p = some (.ins C dx fs) ∧ sp [.ref p] H1 (fun v H2 => ∃ b, v = .bl b ∧ Q b H2) E) := by
  refine ⟨fun pins s σ H Q I h => ?_⟩
  refine PyProof.Rows.isTrue_plain (thn (ha.run pins s σ H _ I h) fun u s1 z => ?_) (he _)
  obtain ⟨x, H1, I1, r1, p, dx, fs, rfl, hp, q⟩ := z
  cases r1
  obtain ⟨mA, J, _⟩ := ins_get I1.hok hp
  obtain ⟨od, J, _⟩ := J.look
  obtain ⟨m, hF⟩ := I1.fr
  refine PySem.W.truthy_K hF I1.ok.mod.kin J hs hf ?_
  refine thn (run_fn (us := [.ref p]) (vs := [.ref p]) (dvs := []) (ds := []) F hr hb .nil hx I1 (.cons rfl .nil) q) fun w s2 z => ?_
  obtain ⟨v, H2, I2, rv, b, rfl, q2⟩ := z
  cases rv
  exact ⟨H2, I2, q2⟩
end
theorem walk_enumT {K : PySem.W.Frag} {a : Addr} {xs : List V} : Walk (ET.IteT K a) xs.length (fun H => SqT K H a xs) (YPair (fun i => some (.int (i : Nat))) (fun i => xs[i]?)) := by
  refine ⟨fun i _ hi q => ⟨xs, xs[i], q, by simp [hi]⟩, fun _ q => ⟨xs, q, Nat.le_refl _⟩, fun i H v H' _ q y => ?_⟩
  obtain ⟨T, x, y1, y2, y3, y4⟩ := y
  exact ⟨T, .int (i : Nat), x, y1, y2, y3, rfl, y4 xs q⟩
def spBoolQ (C : Addr) : Sp := fun vs H Q _ => ∃ (p : Addr) (q : Rat), vs = [.ref p] ∧ RatQ C H p q ∧ Q (.bl (decide (q ≠ 0))) H
def spOver (C : Addr) : Sp := fun vs H Q _ => ∃ (p r : Addr) (u v : Rat), vs = [.ref p, .ref r] ∧ RatQ C H p u ∧ RatQ C H r v ∧ v ≠ 0 ∧ HgQ u ∧ HgQ v ∧ ∀ (x : Addr) (H' : Hp), Same H H' → H x = none → RatQ C H' x (u / v) → Q (.ref x) H'
/-- w intV -/
def intV (w : Nat) (z : Nat → Int) : List V := (List.range w).map fun j => V.int (z j)
theorem intV_len (w : Nat) (z : Nat → Int) : (intV w z).length = w := by unfold intV; rw [List.length_map, List.length_range]
theorem intV_get {w : Nat} {z : Nat → Int} {i : Nat} (h : i < w) : (intV w z)[i]? = some (.int (z i)) := by
  unfold intV
  rw [List.getElem?_map, List.getElem?_range h]
  rfl
theorem intV_lt {w : Nat} {z : Nat → Int} {i : Nat} {x : V} (h : (intV w z)[i]? = some x) : i < w ∧ x = .int (z i) := by
  have hi : i < w := by
    have := (List.getElem?_eq_some_iff.mp h).1
    rw [intV_len] at this
    exact this
  rw [intV_get hi] at h
  exact ⟨hi, (Option.some.inj h).symm⟩
theorem intV_succ (w : Nat) (z : Nat → Int) : intV (w + 1) z = intV w z ++ [.int (z w)] := by
  unfold intV
  rw [List.range_succ, List.map_append]
  rfl
def spShared : Sp := fun vs H Q _ => ∃ (l : Addr) (w : Nat) (z : Nat → Int), vs = [.ref l] ∧ H l = some (.lst (intV w z)) ∧ w ≤ 1000 ∧ Q (.int ((gf z w : Nat) : Int)) H
/-- the first place with a number other than 0 -/
def IsLead (w : Nat) (u : Nat → Rat) (k : Nat) : Prop := k < w ∧ u k ≠ 0 ∧ ∀ j, j < k → u j = 0
def spLead (C : Addr) : Sp := fun vs H Q _ => ∃ (p : Addr) (w : Nat) (a : Nat → Addr) (u : Nat → Rat), vs = [.ref p] ∧ RowQ C H p w a u ∧ w ≤ 1000 ∧ (∀ (k : Nat) (H' : Hp), IsLead w u k → Same H H' → Q (.int (k : Nat)) H') ∧ ((∀ j, j < w → u j = 0) → ∀ H' : Hp, Same H H' → Q .non H')
def spOne (C : Addr) : Sp := fun vs H Q _ => ∃ (p : Addr) (w l : Nat) (a : Nat → Addr) (u : Nat → Rat), vs = [.ref p, .int (l : Nat)] ∧ RowQ C H p w a u ∧ w ≤ 1000 ∧ l < w ∧ u l ≠ 0 ∧ (∀ j, j < w → HgQ (u j)) ∧
  ∀ (r : Addr) (S : Nat → Addr) (H' : Hp), Same H H' → H r = none → RowQ C H' r w S (fun j => u j / u l) → Q (.ref r) H'
section
variable {P : Program} {w : World} {K : PySem.W.Frag} {mg : Str → Option Value} {base : Heap}
theorem scOv : FnScope ["self", "other"] ["self", "other"] (defScope sOver) := ⟨rfl, rfl, rfl, by decide +kernel, rfl, by decide +kernel, by decide +kernel⟩
theorem scBoo : FnScope ["self"] ["self"] (defScope sBool) := ⟨rfl, rfl, rfl, by decide +kernel, rfl, by decide +kernel, by decide +kernel⟩
theorem scSha : FnScope ["row", "found", "integer"] ["row"] (defScope sShared) := ⟨rfl, rfl, rfl, by decide +kernel, rfl, by decide +kernel, by decide +kernel⟩
theorem scLea : FnScope ["row", "at", "number"] ["row"] (defScope sLead) := ⟨rfl, rfl, rfl, by decide +kernel, rfl, by decide +kernel, by decide +kernel⟩
theorem scOne : FnScope ["row", "lead", "number"] ["row", "lead"] (defScope sOne) := ⟨rfl, rfl, rfl, by decide +kernel, rfl, by decide +kernel, by decide +kernel⟩
theorem make3 {C : Addr} {H : Hp} {t b : Int} {R : VK} {E : XK} {x dx : Addr} (hb : b ≠ 0) (nx : H x = none) (nd : H dx = none) (k : ∀ H' : Hp, Same H H' → RatAt C H' x (RT.top t b) (RT.bot t b) → R .non H') :
    spInitB C (.ref x :: ([.int t, .int b] ++ [])) (upd (upd H dx (.own x)) x (.ins C dx [])) R E :=
  ⟨x, dx, t, b, rfl, upd_same, hb, fun H' hR kp => k H' (Same.made nx nd kp) hR⟩
theorem ok_boolQ {f C : Addr} {fd : FuncData} (F : Fun K "__bool__" "Ratio.__bool__" sBool f fd) (TR : TxtR K mg C) (mb : mg "bool" = none) : FnOk P w K mg base CX0 1 f fd ["self"] (spBoolQ C) := by
  refine F.ok scBoo (fun vs H Q E h => ?_) (fun cdv A outer s H vs Q E hr h => ?_)
  · obtain ⟨p, q, rfl, _⟩ := h
    rfl
  · obtain ⟨p, q, rfl, ⟨dx, hp⟩, k⟩ := h
    refine ⟨_, pss_one (ps_ret (pe_callTy call_bool1 (by rfl) mb (by decide +kernel) (pa_cons (pe_fld (pv 0) rfl) pa_nil))), ?_⟩
    refine ⟨_, rfl, p, C, dx, _, _, rfl, hp, TR.cl, TR.nT, rf_top _ _, .inl ⟨_, rfl, ?_⟩⟩
    have e : (q.num != 0) = decide (q ≠ 0) := by
      by_cases z : q = 0
      · rw [z]; rfl
      · rw [decide_eq_true z]
        exact bne_iff_ne.mpr fun y => z (RQ.num0.mp y)
    show Q (.bl (q.num != 0)) H
    rw [e]
    exact k
theorem ok_over {f fI C : Addr} {fd fdI : FuncData} (F : Fun K "over" "Ratio.over" sOver f fd) (TR : TxtR K mg C) (M : Mk K C fI) (GI : FnOk P w K mg base CX0 33 fI fdI ["self", "top", "bottom"] (spInitB C)) (bI : Binds K fdI ["self", "top", "bottom"] []) :
    FnOk P w K mg base CX0 35 f fd ["self", "other"] (spOver C) := by
  refine F.ok scOv (fun vs H Q E h => ?_) (fun cdv A outer s H vs Q E hr h => ?_)
  · obtain ⟨p, r, u, v, rfl, _⟩ := h
    rfl
  · obtain ⟨p, r, u, v, rfl, ⟨dx, hp⟩, ⟨dy, hq⟩, v0, gu, gv, k⟩ := h
    refine ⟨_, pss_one (ps_ret (pe_make M GI hr rfl TR.mgC bI .nil pass0 (pa_cons (pe_op RQ.op_mulH (pe_fld (pv 0) rfl) (pe_fld (pv 1) rfl)) (pa_cons (pe_op RQ.op_mulH (pe_fld (pv 0) rfl) (pe_fld (pv 1) rfl)) pa_nil)))), ?_⟩
    refine ⟨_, rfl, p, C, dx, _, _, rfl, hp, TR.cl, TR.nT, rf_top _ _, _, rfl, r, C, dy, _, _, rfl, hq, TR.cl, TR.nB, rf_bot _ _, _, _, rfl, rfl, ⟨gu.1, gv.2⟩, ?_⟩
    refine ⟨_, rfl, p, C, dx, _, _, rfl, hp, TR.cl, TR.nB, rf_bot _ _, _, rfl, r, C, dy, _, _, rfl, hq, TR.cl, TR.nT, rf_top _ _, _, _, rfl, rfl, ⟨gu.2, gv.1⟩, ?_⟩
    have p1 : (u.den : Int) ≠ 0 := by have := u.den_pos; omega
    have n2 : v.num ≠ 0 := fun z => v0 (RQ.num0.mp z)
    have nz : (u.den : Int) * v.num ≠ 0 := Int.mul_ne_zero p1 n2
    intro x dx nx nd ne
    refine make3 nz nx nd fun H' s' hR => ⟨rfl, k x H' s' nx ?_⟩
    have e : ((u.num * (v.den : Int) : Int) : Rat) = u / v * ((((u.den : Int) * v.num : Int)) : Rat) := by
      have e1 := RQ.nd u
      have e2 := RQ.nd v
      have d1 := RQ.den0 u
      have d2 := RQ.den0 v
      rw [Rat.intCast_mul, Rat.intCast_mul, e1, e2]
      grind
    obtain ⟨q1, q2⟩ := RQ.low nz e
    rw [q1, q2] at hR
    exact hR
theorem ok_shared {f : Addr} {fd : FuncData} (F : Fun K "shared_factor" "shared_factor" sShared f fd) (g : mg "gcd" = some (.builtin "math.gcd")) : FnOk P w K mg base CX0 1 f fd ["row"] spShared := by
  refine F.ok scSha (fun vs H Q E h => ?_) (fun cdv A outer s H vs Q E hr h => ?_)
  · obtain ⟨l, w, z, rfl, _⟩ := h
    rfl
  · obtain ⟨l, ww, z, rfl, hl, hw, k⟩ := h
    refine ⟨_, pss_cons (ps_set (i := 1) scSha.nd rfl (.inl rfl) pe_int)
      (pss_cons (ps_for PassesOwn.never rfl (pi_list (pv 0)) (pg_name (i := 2) scSha.nd rfl (.inl rfl)) (pss_one (ps_set (i := 1) scSha.nd rfl (.inl rfl) (pe_callBfun cr_gcd (by rfl) g (pa_cons (pv 1) (pa_cons (pv 2) pa_nil))))))
      (pss_one (ps_ret (pv 1)))), ?_⟩
    refine ⟨_, rfl, l, rfl, ⟨_, SqL.of hl⟩, for_list (xs := intV ww z) (fun i σ H' => ∃ o, σ = [some (.ref l), some (.int ((gf z i : Nat) : Int)), o] ∧ H' = H) ⟨_, rfl, rfl⟩ (fun i σ H' _ ⟨_, _, e⟩ => by rw [e]; exact SqL.of hl) ?_ ?_⟩
    · rintro i x σ H' hx ⟨o, rfl, rfl⟩
      obtain ⟨hi, rfl⟩ := intV_lt hx
      refine ⟨_, rfl, _, rfl, _, _, rfl, some (.int (z i)), ?_, rfl⟩
      show [some (V.ref l), some (V.int ((Nat.gcd (((gf z i : Nat) : Int)).natAbs (z i).natAbs : Nat) : Int)), some (V.int (z i))] = _
      rw [Int.natAbs_natCast]
      rfl
    · rintro σ H' ⟨o, rfl, rfl⟩
      rw [intV_len]
      exact ⟨_, rfl, k⟩
theorem ok_lead {f fB C : Addr} {fd dB : FuncData} (F : Fun K "leading_place" "leading_place" sLead f fd) (me : mg "enumerate" = none) (aB : PySem.W.findIn K (.ref C) "__bool__" = some (some (.ref fB))) (iB : PySem.W.isFn K (.ref fB) = true) (GB : FnOk P w K mg base CX0 1 fB dB ["self"] (spBoolQ C)) (bB : Binds K dB ["self"] []) :
    FnOk P w K mg base CX0 2 f fd ["row"] (spLead C) := by
  refine F.ok scLea (fun vs H Q E h => ?_) (fun cdv A outer s H vs Q E hr h => ?_)
  · obtain ⟨p, w, a, u, rfl, _⟩ := h
    rfl
  · obtain ⟨p, ww, a, u, rfl, hp, hw, k1, k2⟩ := h
    refine ⟨_, pss_cons (ps_for PassesOwn.never rfl (ET.pi_enumT (by rfl) me (pa_cons (pv 0) pa_nil)) (pg_tup rfl (pgs_cons (pg_name (i := 1) scLea.nd rfl (.inl rfl)) (pgs_cons (pg_name (i := 2) scLea.nd rfl (.inl rfl)) pgs_nil)))
        (pss_one (ps_if (pt_own aB iB GB hr bB pass0 (pv 2) (by intro _; rfl)) (pss_one (ps_ret (pv 1))) pss_nil)))
      (pss_one (ps_ret pe_non)), ?_⟩
    refine ⟨_, rfl, p, refs ww a, rfl, SqT.of hp.hp, for_it (walk_enumT (K := K) (a := p) (xs := refs ww a)) (fun i σ H' => ∃ o1 o2, σ = [some (.ref p), o1, o2] ∧ Same H H' ∧ ∀ j, j < i → u j = 0) ⟨_, _, rfl, Same.refl _, fun j hj => absurd hj (by omega)⟩
      (fun i σ H' _ ⟨_, _, _, s', _⟩ => SqT.of (s' _ _ hp.hp)) ?_ ?_⟩
    · rintro i x σ H1 H2 hi ⟨o1, o2, rfl, s1, z⟩ ⟨T, x1, y1, rfl, nT, rfl, e1, e2⟩
      rw [refs_len] at hi
      have e2 : (refs ww a)[i]? = some y1 := e2
      rw [refs_get hi] at e2
      cases e2
      cases e1
      have s2 : Same H (upd H1 T (.tup [.int (i : Nat), .ref (a i)])) := s1.trans (Same.upd nT)
      have hr2 := (hp.r i hi).same s2
      obtain ⟨dx, hx⟩ := id hr2
      refine ⟨T, _, rfl, SqT.of upd_same, rfl, _, _, rfl, _, _, rfl, rfl, ?_⟩
      refine ⟨_, rfl, a i, dx, _, rfl, hx, a i, u i, rfl, hr2, _, rfl, ?_⟩
      by_cases n : u i = 0
      · rw [show decide (u i ≠ 0) = false from decide_eq_false fun y => y n]
        refine iteF ⟨_, _, rfl, s2, fun j hj => ?_⟩
        by_cases e : j = i
        · rw [e]; exact n
        · exact z j (by omega)
      · rw [show decide (u i ≠ 0) = true from decide_eq_true n]
        exact iteT ⟨_, rfl, k1 i _ ⟨hi, n, z⟩ s2⟩
    · rintro σ H1 ⟨o1, o2, rfl, s1, z⟩
      rw [refs_len] at z
      exact k2 z H1 s1
theorem stays_ratQ {C : Addr} {u : Nat → Rat} : Stays (fun H j x => RatQ C H x (u j)) := ⟨fun s h => h.same s, fun h2 h => h.other (h.ne h2)⟩
theorem ok_one {f fO C : Addr} {fd dO : FuncData} (F : Fun K "_with_lead_one" "_with_lead_one" sOne f fd) (T : TxtP mg) (TR : TxtR K mg C) (mO : Meth K C "over" fO) (GO : FnOk P w K mg base CX0 35 fO dO ["self", "other"] (spOver C)) (bO : Binds K dO ["self", "other"] []) :
    FnOk P w K mg base CX0 36 f fd ["row", "lead"] (spOne C) := by
  refine F.ok scOne (fun vs H Q E h => ?_) (fun cdv A outer s H vs Q E hr h => ?_)
  · obtain ⟨p, w, l, a, u, rfl, _⟩ := h
    rfl
  · obtain ⟨p, ww, l, a, u, rfl, hp, hw, hl, u0, hg, kk⟩ := h
    refine ⟨_, pss_one (ps_ret (pe_callTy call_tuple_of (by rfl) T.tup (by decide +kernel) (pa_cons (pe_lc (own := [("number", 2)]) (g := gName 2) (tt := tYes) rfl scOne.nd (pi_tup (pv 0)) (blkOk_by (N := ["row", "lead", "number"]) (sc := defScope sOne) (by decide +kernel))
        (fun _ _ _ _ _ => pg_name (i := 2) scOne.nd rfl (Or.inl rfl)) (fun _ _ _ _ _ => pts_nil) (fun _ _ _ _ _ => pe_meth (pv 2) TR.cl mO GO hr bO .nil pass0 (pa_cons (pe_ix (show IxR _ (rIxT K) from ix_tup) (pv 0) (pv 1) (fun _ _ => rfl)) pa_nil))) pa_nil))), ?_⟩
    refine ⟨_, rfl, p, rfl, ⟨_, SqT.of hp.hp⟩, fun D nD => ?_⟩
    refine lc_tup (K := K) (a := p) (xs := refs ww a) (fun i H2 => ∃ S, Built (fun H j x => RatQ C H x (u j / u l)) H D i S H2) ⟨_, built0 nD⟩ (fun i H2 _ ⟨S, B⟩ => SqT.of (B.s _ _ hp.hp)) ?_ ?_
    · rintro i x H2 hi ⟨S, B⟩
      obtain ⟨hi', rfl⟩ := refs_lt hi
      have ri := (hp.r i hi').same B.s
      obtain ⟨dx, hx⟩ := id ri
      refine ⟨rfl, ?_⟩
      refine ⟨_, rfl, a i, dx, _, rfl, hx, rf_no _ _ (by decide +kernel) (by decide +kernel), _, rfl, _, rfl, p, _, _, _, rfl, rfl, SqT.of (B.s _ _ hp.hp), at_of rfl (refs_get hl), ?_⟩
      refine ⟨a i, a l, u i, u l, rfl, ri, (hp.r l hl).same B.s, u0, hg i hi', hg l hl, fun r H3 s3 nr hR => ?_⟩
      refine ⟨_, s3 _ _ B.hD, ?_, _, B.step stays_ratQ nD s3 hR⟩
      rw [refs_len]
      exact small1000 (by omega)
    · rintro H2 ⟨S, B⟩
      have B : Built _ H D (refs ww a).length S H2 := B
      rw [refs_len] at B
      refine ⟨D, _, rfl, .inl ⟨SqL.of B.hD, fun r nr => ?_⟩⟩
      exact kk r S _ (B.s.trans (Same.upd nr)) (B.s.free nr) ⟨upd_same, fun j hj => (B.pr j hj).same (Same.upd nr)⟩
end
end RX

set_option Elab.async false
set_option maxRecDepth 100000
namespace RX
open PySem L2 VM
open RQ (Hg Bt)
/-! ### _freed -/
def spFreed (C : Addr) : Sp := fun vs H Q _ => ∃ (p q : Addr) (w l m b1 b2 : Nat) (a b : Nat → Addr) (u v : Nat → Rat) (M : Nat → Int), vs = [.ref p, .ref q, .int (l : Nat)] ∧ RowQ C H p w a u ∧ RowQ C H q w b v ∧ w ≤ 1000 ∧ l < w ∧ v l ≠ 0 ∧
  VB M b1 w u ∧ VB M b2 w v ∧ MB M m w ∧ m ≤ 12000 ∧ b1 + b2 ≤ 55000000 ∧
  ∀ (r : Addr) (a' : Nat → Addr) (u' : Nat → Rat) (H' : Hp), Same H H' → RowQ C H' r w a' u' → Less w l u v u' → VB M (b1 + b2 + 2 * m + 1) w u' → Q (.ref r) H'
theorem iteF' {b : Bool} {A B : Prop} (h : b = false) (x : B) : if b = true then A else B := by
  subst h
  exact x
theorem iteT' {b : Bool} {A B : Prop} (h : b = true) (x : A) : if b = true then A else B := by
  subst h
  exact x
section
variable {P : Program} {w : World} {K : PySem.W.Frag} {mg : Str → Option Value} {base : Heap}
theorem scFr : FnScope ["row", "other", "lead", "part", "tops", "bottoms", "mine", "its", "bottom", "kept", "top", "above", "below", "nothing"] ["row", "other", "lead"] (defScope sFreed) := ⟨rfl, rfl, rfl, by decide +kernel, rfl, by decide +kernel, by decide +kernel⟩
theorem make4 {C : Addr} {H : Hp} {R : VK} {E : XK} {x dx : Addr} (nx : H x = none) (nd : H dx = none) (k : ∀ H' : Hp, Same H H' → RatQ C H' x 0 → R .non H') :
    spInitB C (.ref x :: ([.int 0] ++ [.int 1])) (upd (upd H dx (.own x)) x (.ins C dx [])) R E :=
  make3 (t := 0) (b := 1) (by decide) nx nd fun H' s hR => k H' s (by rw [(RT.one 0).1, (RT.one 0).2] at hR; exact hR)
theorem ok_freed (B : PL.Big P base) {f fI fO fB fS C : Addr} {fd dI dO dB dS : FuncData} (F : Fun K "_freed" "_freed" sFreed f fd) (T : TxtP mg) (TR : TxtR K mg C) (M : Mk K C fI) (GI : FnOk P w K mg base CX0 33 fI dI ["self", "top", "bottom"] (spInitB C)) (bI : Binds K dI ["self", "top", "bottom"] [])
    (bI1 : ∃ ds, Vals [V.int 1] ds ∧ Binds K dI ["self", "top", "bottom"] ds) (mO : Meth K C "over" fO) (GO : FnOk P w K mg base CX0 35 fO dO ["self", "other"] (spOver C)) (bO : Binds K dO ["self", "other"] [])
    (aB : PySem.W.findIn K (.ref C) "__bool__" = some (some (.ref fB))) (iB : PySem.W.isFn K (.ref fB) = true) (GB : FnOk P w K mg base CX0 1 fB dB ["self"] (spBoolQ C)) (bB : Binds K dB ["self"] []) (cS : CalN P w K mg base "shared_factor" 1 ["row"] spShared fS dS) :
    FnOk P w K mg base CX0 36 f fd ["row", "other", "lead"] (spFreed C) := by
  refine F.ok scFr (fun vs H Q E h => ?_) (fun cdv A outer s H vs Q E hr h => ?_)
  · obtain ⟨p, q, w, l, m, b1, b2, a, b, u, v, M, rfl, _⟩ := h
    rfl
  · obtain ⟨p, q, ww, l, m, b1, b2, a, b, u, v, MM, rfl, hp, hq, hw, hl, v0, hu, hv, hM, hm, hb, kk⟩ := h
    obtain ⟨ds, vds, bI1⟩ := bI1
    have hr1 : Room 1 _ := hr.mono (by decide)
    have hr32 : Room 32 _ := hr.mono (by decide)
    have hr34 : Room 34 _ := hr.mono (by decide)
    refine ⟨_, pss_cons (ps_if (pt_not (pt_own aB iB GB hr1 bB pass0 (pe_ix ix_tup (pv 0) (pv 2) (fun _ _ => rfl)) (by intro _; rfl))) (pss_one (ps_ret (pv 0))) pss_nil)
      (pss_cons (ps_set (i := 3) scFr.nd rfl (.inl rfl) (pe_meth (pe_ix ix_tup (pv 0) (pv 2) (fun _ _ => rfl)) TR.cl mO GO hr bO .nil pass0 (pa_cons (pe_ix ix_tup (pv 1) (pv 2) (fun _ _ => rfl)) pa_nil)))
      (pss_cons (ps_par (i := 4) (j := 5) (by rfl) scFr.nd rfl rfl (by decide) rfl rfl (pa_cons (pe_lst pa_nil) (pa_cons (pe_lst pa_nil) pa_nil)) (by rfl))
      (pss_cons (ps_for PassesOwn.never rfl (RZ.pi_zipA (by rfl) T.zip (pa_cons (pv 0) (pa_cons (pv 1) pa_nil))) (pg_tup rfl (pgs_cons (pg_name (i := 6) scFr.nd rfl (.inl rfl)) (pgs_cons (pg_name (i := 7) scFr.nd rfl (.inl rfl)) pgs_nil)))
        (pss_cons (ps_set (i := 8) scFr.nd rfl (.inl rfl) (pe_callBfun cr_lcm (by rfl) T.lcm (pa_cons (pe_fld (pv 6) rfl) (pa_cons (pe_fld (pv 7) rfl) pa_nil))))
        (pss_cons (ps_set (i := 9) scFr.nd rfl (.inl rfl) (pe_op RQ.op_mulH (pe_op RQ.op_mulH (pe_fld (pv 6) rfl) (pe_op (PL.op_fdivP B hr32 ⟨_, _, rfl, rfl, rfl, rfl, rfl⟩) (pv 8) (pe_fld (pv 6) rfl))) (pe_fld (pv 3) rfl)))
        (pss_cons (ps_set (i := 10) scFr.nd rfl (.inl rfl) (pe_op op_sub (pv 9) (pe_op RQ.op_mulH (pe_op RQ.op_mulH (pe_fld (pv 7) rfl) (pe_op (PL.op_fdivP B hr32 ⟨_, _, rfl, rfl, rfl, rfl, rfl⟩) (pv 8) (pe_fld (pv 7) rfl))) (pe_fld (pv 3) rfl))))
        (pss_cons (ps_expr (pe_bm PySem.F.plainAttrs_list PySem.F.slot_list_append PySem.F.type_list_append mt_append (pv 4) (pa_cons (pv 10) pa_nil)))
        (pss_one (ps_expr (pe_bm PySem.F.plainAttrs_list PySem.F.slot_list_append PySem.F.type_list_append mt_append (pv 5) (pa_cons (pe_ifExp (pt_truth (pv 10) (by intro _; rfl)) (pv 8) pe_int) pa_nil)))))))))
      (pss_cons (ps_asg (pe_tup (pa_cons (pe_call cS.G hr1 rfl cS.m cS.kp cS.b .nil pass0 (pa_cons (pv 4) pa_nil)) (pa_cons (pe_call cS.G hr1 rfl cS.m cS.kp cS.b .nil pass0 (pa_cons (pv 5) pa_nil)) pa_nil))) (pg_tup rfl (pgs_cons (pg_name (i := 11) scFr.nd rfl (.inr rfl)) (pgs_cons (pg_name (i := 12) scFr.nd rfl (.inr rfl)) pgs_nil))))
      (pss_cons (ps_set (i := 13) scFr.nd rfl (.inr rfl) (pe_make M GI hr34 rfl TR.mgC bI1 vds pass0 (pa_cons pe_int pa_nil)))
      (pss_one (ps_ret (pe_callTy call_tuple_of (by rfl) T.tup (by decide +kernel) (pa_cons (pe_lc (own := [("top", 10), ("bottom", 8)]) (g := gTup K 2 (gCons (gName 10) (gCons (gName 8) gNil))) (tt := tYes) rfl scFr.nd (pi_zip (by rfl) T.zip (pa_cons (pv 4) (pa_cons (pv 5) pa_nil)))
          (blkOk_by (N := ["row", "other", "lead", "part", "tops", "bottoms", "mine", "its", "bottom", "kept", "top", "above", "below", "nothing"]) (sc := defScope sFreed) (by decide +kernel))
          (fun _ _ _ _ _ => pg_tup rfl (pgs_cons (pg_name (i := 10) scFr.nd rfl (.inl rfl)) (pgs_cons (pg_name (i := 8) scFr.nd rfl (.inl rfl)) pgs_nil))) (fun _ _ _ _ _ => pts_nil)
          (fun _ _ _ _ _ => pe_ifExp (show PT _ _ (fun σ H Q => tVar 10 σ H fun x H' => ∃ k, TruV K x H' k ∧ Q k H') from pt_truth (pv 10) (by intro _; rfl))
            (pe_make M GI hr34 rfl TR.mgC bI .nil pass0 (pa_cons (pe_op (PL.op_fdivP B hr32 ⟨_, _, rfl, rfl, rfl, rfl, rfl⟩) (pv 10) (pv 11)) (pa_cons (pe_op (PL.op_fdivP B hr32 ⟨_, _, rfl, rfl, rfl, rfl, rfl⟩) (pv 8) (pv 12)) pa_nil)))
            (pv 13))) pa_nil))))))))), ?_⟩
    -- if not row[lead]
    obtain ⟨dx, hx⟩ := id (hp.r l hl)
    refine ⟨_, rfl, _, rfl, p, _, _, _, rfl, rfl, SqT.of hp.hp, at_of rfl (refs_get hl), a l, dx, _, rfl, hx, a l, u l, rfl, hp.r l hl, _, rfl, ?_⟩
    by_cases u0 : u l = 0
    · rw [show decide (u l ≠ 0) = false from decide_eq_false fun y => y u0]
      refine iteT ⟨_, rfl, kk p a u H (Same.refl H) hp (Less.refl u0) (hu.up (by omega))⟩
    rw [show decide (u l ≠ 0) = true from decide_eq_true u0]
    refine iteF ?_
    -- part
    have hgu : HgQ (u l) := ⟨(hu.n l hl).hg (by omega), (hu.den hM hl).hg (by omega)⟩
    have hgv : HgQ (v l) := ⟨(hv.n l hl).hg (by omega), (hv.den hM hl).hg (by omega)⟩
    refine ⟨_, rfl, _, rfl, p, _, _, _, rfl, rfl, SqT.of hp.hp, at_of rfl (refs_get hl), a l, dx, _, rfl, hx, rf_no _ _ (by decide +kernel) (by decide +kernel), _, rfl, _, rfl, q, _, _, _, rfl, rfl, SqT.of hq.hp, at_of rfl (refs_get hl), ?_⟩
    refine ⟨a l, b l, u l, v l, rfl, hp.r l hl, hq.r l hl, v0, hgu, hgv, fun pt H3 s3 npt hpt => ?_⟩
    refine ⟨(by show 0 ≤ sizeLine; decide), fun T1 n1 => ⟨(by show 0 ≤ sizeLine; decide), fun T2 n2 => ⟨_, _, rfl, ?_⟩⟩⟩
    have T12 : T1 ≠ T2 := ne_of_none upd_same n2
    have n2' : H3 T2 = none := (Same.upd n1).free n2
    have s4 : Same H3 (upd (upd H3 T1 (.lst [])) T2 (.lst [])) := (Same.upd n1).trans (Same.upd n2)
    have hp3 := hp.same s3
    have hq3 := hq.same s3
    obtain ⟨dp, hpt'⟩ := id hpt
    obtain ⟨c1, c2⟩ := part_bt hu hv hM hl u0 v0
    refine ⟨_, rfl, _, rfl, p, q, refs ww a, refs ww b, rfl, .inr ⟨SqT.of (s4 _ _ hp3.hp), SqT.of (s4 _ _ hq3.hp), RZ.for_zipT (xs := refs ww a) (ys := refs ww b) (by rw [refs_len, refs_len])
      (fun i σ H' => ∃ o6 o7 o8 o9 o10, σ = [some (.ref p), some (.ref q), some (.int (l : Nat)), some (.ref pt), some (.ref T1), some (.ref T2), o6, o7, o8, o9, o10, none, none, none] ∧ H' T1 = some (.lst (intV i (tp u v l))) ∧ H' T2 = some (.lst (intV i (bz u v l))) ∧ Same H3 H')
      ⟨_, _, _, _, _, rfl, by rw [upd_ne T12, upd_same]; rfl, by rw [upd_same]; rfl, s4⟩ ?_ ?_ ?_⟩⟩
    · rintro i σ H' ⟨o6, o7, o8, o9, o10, rfl, _, _, s'⟩
      exact ⟨SqT.of (s' _ _ hp3.hp), SqT.of (s' _ _ hq3.hp)⟩
    · rintro i x y Tn σ H' hx1 hy1 ⟨o6, o7, o8, o9, o10, rfl, h1, h2, s'⟩ nT
      obtain ⟨hi, rfl⟩ := refs_lt hx1
      obtain ⟨_, rfl⟩ := refs_lt hy1
      have s5 : Same H3 (upd H' Tn (.tup [.ref (a i), .ref (b i)])) := s'.trans (Same.upd nT)
      have h1' : upd H' Tn (.tup [.ref (a i), .ref (b i)]) T1 = some (.lst (intV i (tp u v l))) := by rw [upd_ne (ne_of_none h1 nT)]; exact h1
      have h2' : upd H' Tn (.tup [.ref (a i), .ref (b i)]) T2 = some (.lst (intV i (bz u v l))) := by rw [upd_ne (ne_of_none h2 nT)]; exact h2
      obtain ⟨da, ha⟩ := (hp3.r i hi).same s5
      obtain ⟨db, hb'⟩ := (hq3.r i hi).same s5
      have hpt5 := s5 _ _ hpt'
      have B1 : ((u i).den : Int).natAbs < 2 ^ 13000 := (hu.den hM hi).up (by omega)
      have B2 : ((v i).den : Int).natAbs < 2 ^ 13000 := (hv.den hM hi).up (by omega)
      obtain ⟨t0, t1, t2, t3⟩ := tp_bt hu hv hM hl hi u0 v0
      have elcm : RT.lcmI ((u i).den : Int) ((v i).den : Int) = bt u v i := rfl
      have ud : ((u i).den : Int) ≠ 0 := by have := (u i).den_pos; omega
      have vd : ((v i).den : Int) ≠ 0 := by have := (v i).den_pos; omega
      have q1 := quot_bt (bt_l u v i) ud t0
      have q2 := quot_bt (bt_r u v i) vd t0
      refine ⟨Tn, _, rfl, SqT.of upd_same, rfl, _, _, rfl, _, _, rfl, rfl, ?_⟩
      refine ⟨_, rfl, a i, C, da, _, _, rfl, ha, TR.cl, TR.nB, rf_bot _ _, _, rfl, b i, C, db, _, _, rfl, hb', TR.cl, TR.nB, rf_bot _ _, _, _, rfl, B1, B2, ?_⟩
      rw [elcm]
      refine ⟨_, rfl, a i, C, da, _, _, rfl, ha, TR.cl, TR.nT, rf_top _ _, _, rfl, _, rfl, a i, C, da, _, _, rfl, ha, TR.cl, TR.nB, rf_bot _ _, _, _, rfl, rfl, ud, _, _, rfl, rfl, ⟨(hu.n i hi).hg (by omega), q1.hg (by omega)⟩,
        _, rfl, pt, C, dp, _, _, rfl, hpt5, TR.cl, TR.nB, rf_bot _ _, _, _, rfl, rfl, ⟨t1.hg (by omega), c2.hg (by omega)⟩, ?_⟩
      refine ⟨_, rfl, _, rfl, b i, C, db, _, _, rfl, hb', TR.cl, TR.nT, rf_top _ _, _, rfl, _, rfl, b i, C, db, _, _, rfl, hb', TR.cl, TR.nB, rf_bot _ _, _, _, rfl, rfl, vd, _, _, rfl, rfl, ⟨(hv.n i hi).hg (by omega), q2.hg (by omega)⟩,
        _, rfl, pt, C, dp, _, _, rfl, hpt5, TR.cl, TR.nT, rf_top _ _, _, _, rfl, rfl, ⟨t2.hg (by omega), c1.hg (by omega)⟩, _, _, rfl, rfl, ?_⟩
      have etp : (u i).num * (bt u v i).fdiv ((u i).den : Int) * ((u l / v l).den : Int) - (v i).num * (bt u v i).fdiv ((v i).den : Int) * (u l / v l).num = tp u v l i := rfl
      refine ⟨_, rfl, .inl ⟨rfl, _, SqL.of h1'⟩, _, rfl, T1, _, _, rfl, rfl, h1', by rw [intV_len]; exact small1000 (by omega), ?_⟩
      have h2'' : upd (upd H' Tn (.tup [.ref (a i), .ref (b i)])) T1 (.lst (intV i (tp u v l) ++ [.int (tp u v l i)])) T2 = some (.lst (intV i (bz u v l))) := by rw [upd_ne T12.symm]; exact h2'
      have fin : ∀ z : Int, z = bz u v l i → ∃ o6 o7 o8 o9 o10, [some (V.ref p), some (.ref q), some (.int (l : Nat)), some (.ref pt), some (.ref T1), some (.ref T2), some (.ref (a i)), some (.ref (b i)), some (.int (bt u v i)), some (.int ((u i).num * (bt u v i).fdiv ((u i).den : Int) * ((u l / v l).den : Int))), some (.int (tp u v l i)), none, none, none] =
          [some (V.ref p), some (.ref q), some (.int (l : Nat)), some (.ref pt), some (.ref T1), some (.ref T2), o6, o7, o8, o9, o10, none, none, none] ∧
          upd (upd (upd H' Tn (.tup [.ref (a i), .ref (b i)])) T1 (.lst (intV i (tp u v l) ++ [.int (tp u v l i)]))) T2 (.lst (intV i (bz u v l) ++ [.int z])) T1 = some (.lst (intV (i + 1) (tp u v l))) ∧
          upd (upd (upd H' Tn (.tup [.ref (a i), .ref (b i)])) T1 (.lst (intV i (tp u v l) ++ [.int (tp u v l i)]))) T2 (.lst (intV i (bz u v l) ++ [.int z])) T2 = some (.lst (intV (i + 1) (bz u v l))) ∧
          Same H3 (upd (upd (upd H' Tn (.tup [.ref (a i), .ref (b i)])) T1 (.lst (intV i (tp u v l) ++ [.int (tp u v l i)]))) T2 (.lst (intV i (bz u v l) ++ [.int z]))) := fun z ez => by
        subst ez
        refine ⟨_, _, _, _, _, rfl, by rw [upd_ne T12, upd_same, intV_succ], by rw [upd_same, intV_succ], fun c o e => ?_⟩
        rw [upd_ne (ne_of_none e n2'), upd_ne (ne_of_none e n1)]
        exact s5 _ _ e
      refine ⟨_, rfl, .inl ⟨rfl, _, SqL.of h2''⟩, _, rfl, _, rfl, ?_⟩
      by_cases z : tp u v l i = 0
      · refine iteF' (show ((tp u v l i != 0) : Bool) = false by rw [z]; rfl) ?_
        exact ⟨T2, _, _, rfl, rfl, h2'', by rw [intV_len]; exact small1000 (by omega), fin 0 (by unfold bz; rw [if_pos z])⟩
      · refine iteT' (show ((tp u v l i != 0) : Bool) = true from bne_iff_ne.mpr z) ?_
        exact ⟨_, rfl, T2, _, _, rfl, rfl, h2'', by rw [intV_len]; exact small1000 (by omega), fin (bt u v i) (by unfold bz; rw [if_neg z])⟩
    · rintro σ H5 ⟨o6, o7, o8, o9, o10, rfl, h1, h2, s5⟩
      rw [refs_len] at h1 h2
      obtain ⟨u', hless, hvb, hval⟩ := freed hu hv hM hl u0 v0
      refine ⟨_, rfl, T1, ww, _, rfl, h1, hw, _, rfl, T2, ww, _, rfl, h2, hw, (by show 2 ≤ sizeLine; decide), fun tt nt => ⟨tt, _, rfl, SqT.of upd_same, rfl, _, _, rfl, _, _, rfl, rfl, ?_⟩⟩
      have s6 : Same H5 (upd H5 tt (.tup [.int ((gf (tp u v l) ww : Nat) : Int), .int ((gf (bz u v l) ww : Nat) : Int)])) := Same.upd nt
      have h1 := s6 _ _ h1
      have h2 := s6 _ _ h2
      have s6 := s5.trans s6
      generalize upd H5 tt (.tup [.int ((gf (tp u v l) ww : Nat) : Int), .int ((gf (bz u v l) ww : Nat) : Int)]) = H6 at *
      intro no dn nno ndn nene
      refine make4 nno ndn fun H7 s7 hno => ⟨rfl, ?_⟩
      have h1 := s7 _ _ h1
      have h2 := s7 _ _ h2
      refine ⟨_, rfl, _, rfl, T1, T2, _, _, rfl, SqL.of h1, SqL.of h2, fun D nD => ?_⟩
      refine lc_it (walk_zip (n := ww) (K := K) (a := T1) (b := T2) (xs := intV ww (tp u v l)) (ys := intV ww (bz u v l)) (by rw [intV_len, intV_len]; simp)) (fun i H8 => ∃ S, Built (fun H j x => RatQ C H x (u' j)) H7 D i S H8) ⟨_, built0 nD⟩
        (fun i H8 _ ⟨S, Bu⟩ => ⟨SqL.of (Bu.s _ _ h1), SqL.of (Bu.s _ _ h2)⟩) ?_ ?_
      · rintro i x H8 H9 hi ⟨S, Bu⟩ ⟨Tx, x1, y1, rfl, nTx, rfl, e1, e2⟩
        have e1 : (intV ww (tp u v l))[i]? = some x1 := e1
        have e2 : (intV ww (bz u v l))[i]? = some y1 := e2
        rw [intV_get hi] at e1 e2
        cases e1
        cases e2
        have s9 : Same H8 (upd H8 Tx (.tup [.int (tp u v l i), .int (bz u v l i)])) := Same.upd nTx
        refine ⟨Tx, _, rfl, SqT.of upd_same, rfl, _, _, rfl, _, _, rfl, rfl, rfl, ?_⟩
        obtain ⟨w1, w2⟩ := hval i hi
        refine ⟨_, rfl, _, rfl, ?_⟩
        by_cases z : tp u v l i = 0
        · refine iteF' (show ((tp u v l i != 0) : Bool) = false by rw [z]; rfl) ?_
          refine ⟨_, rfl, _, s9 _ _ Bu.hD, by rw [refs_len]; exact small1000 (by omega), _, Bu.step (x := no) (stays_ratQ (u := u')) nD s9 ?_⟩
          show RatQ C _ no (u' i)
          rw [w1 z]
          exact (hno.same Bu.s).same s9
        · refine iteT' (show ((tp u v l i != 0) : Bool) = true from bne_iff_ne.mpr z) ?_
          obtain ⟨A1, A2, A3, A4, A5⟩ := w2 z
          have ebz : bz u v l i = bt u v i := by unfold bz; rw [if_neg z]
          refine ⟨_, rfl, _, rfl, _, _, rfl, rfl, A1, _, rfl, _, rfl, _, _, rfl, rfl, A2, ?_⟩
          intro rx drx nrx ndrx nerx
          refine make3 (by rw [ebz]; exact A3) nrx ndrx fun H10 s10 hR => ⟨rfl, ?_⟩
          rw [ebz, A4, A5] at hR
          exact ⟨_, (s9.trans s10) _ _ Bu.hD, by rw [refs_len]; exact small1000 (by omega), _, Bu.step (x := rx) (stays_ratQ (u := u')) nD (s9.trans s10) hR⟩
      · rintro H8 ⟨S, Bu⟩
        refine ⟨D, _, rfl, .inl ⟨SqL.of Bu.hD, fun r nr => ?_⟩⟩
        exact kk r S u' _ ((((s3.trans s6).trans s7).trans Bu.s).trans (Same.upd nr)) ⟨upd_same, fun j hj => (Bu.pr j hj).same (Same.upd nr)⟩ hless hvb
end
end RX

set_option Elab.async false
set_option maxRecDepth 100000
namespace VM
open RQ
/-- bits behind k steps -/
def bK (m e : Nat) : Nat → Nat
  | 0 => e - (2 * m + 1)
  | k + 1 => bK m e k + bK m e k + 2 * m + 1
theorem bK_le {m e : Nat} (h : 2 * m + 1 ≤ e) : ∀ k : Nat, bK m e k + (2 * m + 1) = 2 ^ k * e
  | 0 => by unfold bK; omega
  | k + 1 => by
    have := bK_le h k
    unfold bK
    rw [Nat.pow_succ, Nat.mul_assoc, Nat.mul_comm 2 e, ← Nat.mul_assoc, ← this]
    omega
theorem bK_mono {m e : Nat} {i k : Nat} (h : i ≤ k) : bK m e i ≤ bK m e k := by
  induction h with
  | refl => exact Nat.le_refl _
  | @step k _ ih =>
    show bK m e i ≤ bK m e k + bK m e k + 2 * m + 1
    omega
theorem bK_max {m e k R N : Nat} (h : 2 * m + 1 ≤ e) (hk : k ≤ R) (hN : 2 ^ R * e ≤ N) : bK m e k ≤ N := by
  have h1 := bK_le h R
  have h2 := bK_mono (m := m) (e := e) hk
  omega
/-- unlike numbers below w are at most w -/
theorem pigeon : ∀ {w : Nat} {xs : List Nat}, xs.Nodup → (∀ x ∈ xs, x < w) → xs.length ≤ w
  | 0, xs, _, h => by
    cases xs with
    | nil => exact Nat.le_refl _
    | cons x xs => exact absurd (h x List.mem_cons_self) (by omega)
  | w + 1, xs, nd, h => by
    have nd' : (xs.erase w).Nodup := nd.erase w
    have h' : ∀ x ∈ xs.erase w, x < w := fun x hx => by
      have h1 := h x (List.mem_of_mem_erase hx)
      have h2 : x ≠ w := fun e => by
        rw [e] at hx
        exact (List.Nodup.not_mem_erase nd) hx
      omega
    have ih := pigeon nd' h'
    have := List.length_erase_of_mem (a := w) (l := xs)
    by_cases hm : w ∈ xs
    · have := List.length_erase_of_mem hm
      omega
    · rw [List.erase_of_not_mem hm] at ih
      omega
theorem Ech.le {n w : Nat} {l : Nat → Nat} {v : Nat → Nat → Rat} (E : Ech n w l v) : n ≤ w := by
  have nd : ((List.range n).map l).Nodup := by
    rw [List.nodup_iff_pairwise_ne, List.pairwise_map]
    refine List.Pairwise.imp_of_mem ?_ (List.nodup_iff_pairwise_ne.mp List.nodup_range)
    intro a b ha hb ne e
    exact ne (E.inj (List.mem_range.mp ha) (List.mem_range.mp hb) e)
  have := pigeon nd fun x hx => by
    obtain ⟨k, hk, rfl⟩ := List.mem_map.mp hx
    exact E.lt k (List.mem_range.mp hk)
  rw [List.length_map, List.length_range] at this
  exact this
/-- one more at the end -/
def ex {α : Type} (f : Nat → α) (i : Nat) (x : α) : Nat → α := fun j => if j = i then x else f j
theorem ex_same {α : Type} (f : Nat → α) (i : Nat) (x : α) : ex f i x i = x := if_pos rfl
theorem ex_lt {α : Type} (f : Nat → α) {i j : Nat} (x : α) (h : j < i) : ex f i x j = f j := if_neg (by omega)
theorem Ech.more {n w k : Nat} {l : Nat → Nat} {v : Nat → Nat → Rat} {u : Nat → Rat} (E : Ech n w l v) (hk : k < w) (nz : u k ≠ 0) (zb : ∀ j, j < k → u j = 0) (zz : ∀ i, i < n → u (l i) = 0) : Ech (n + 1) w (ex l n k) (ex v n u) where
  lt := fun j hj => by
    by_cases e : j = n
    · subst e; rw [ex_same]; exact hk
    · rw [ex_lt l k (by omega)]; exact E.lt j (by omega)
  nz := fun j hj => by
    by_cases e : j = n
    · subst e; rw [ex_same, ex_same]; exact nz
    · rw [ex_lt l k (by omega), ex_lt v u (by omega)]; exact E.nz j (by omega)
  zb := fun j hj i hi => by
    by_cases e : j = n
    · subst e; rw [ex_same] at hi ⊢; exact zb i hi
    · rw [ex_lt l k (by omega)] at hi; rw [ex_lt v u (by omega)]; exact E.zb j (by omega) i hi
  zz := fun j hj i hi => by
    by_cases e : j = n
    · subst e; rw [ex_same, ex_lt l k hi]; exact zz i hi
    · rw [ex_lt v u (by omega), ex_lt l k (by omega)]; exact E.zz j (by omega) i hi
theorem ann_succ {n w : Nat} {v : Nat → Nat → Rat} {u y : Nat → Rat} : Ann (n + 1) w (ex v n u) y ↔ Ann n w v y ∧ dot u y w = 0 := by
  constructor
  · intro h
    refine ⟨fun i hi => ?_, ?_⟩
    · have := h i (by omega)
      rw [ex_lt v u hi] at this
      exact this
    · have := h n (by omega)
      rw [ex_same] at this
      exact this
  · intro h i hi
    by_cases e : i = n
    · subst e; rw [ex_same]; exact h.2
    · rw [ex_lt v u (by omega)]; exact h.1 i (by omega)
theorem ann_more {h w : Nat} {U : Nat → Nat → Rat} {y : Nat → Rat} : Ann (h + 1) w U y ↔ Ann h w U y ∧ dot (U h) y w = 0 := by
  constructor
  · intro z
    exact ⟨fun i hi => z i (by omega), z h (by omega)⟩
  · intro z i hi
    by_cases e : i = h
    · subst e; exact z.2
    · exact z.1 i (by omega)
/-! ### from the last row up -/
/-- rows that are done from t on: each with its lead, 0 ahead of it and at the leads behind -/
structure Done (t n w : Nat) (L : Nat → Nat) (z : Nat → Nat → Rat) : Prop where
  nz : ∀ k, t ≤ k → k < n → z k (L k) ≠ 0
  zb : ∀ k, t ≤ k → k < n → ∀ j, j < L k → z k j = 0
  zz : ∀ k, t ≤ k → k < n → ∀ i, k < i → i < n → z k (L i) = 0
theorem Done.rref {n w : Nat} {L : Nat → Nat} {z : Nat → Nat → Rat} (D : Done 0 n w L z) (lt : ∀ k, k < n → L k < w) (up : ∀ s t, s < t → t < n → L s < L t) : Rref n w (fun t j => z t j / z t (L t)) L where
  lt := lt
  up := up
  one := fun t ht => by
    have := D.nz t (Nat.zero_le _) ht
    grind
  off := fun s t hs ht ne => by
    have h0 : z s (L t) = 0 := by
      rcases Nat.lt_or_ge s t with h | h
      · exact D.zz s (Nat.zero_le _) hs t h ht
      · exact D.zb s (Nat.zero_le _) hs _ (up t s (by omega) hs)
    show z s (L t) / z s (L s) = 0
    rw [h0]
    grind
  zb := fun t ht j hj => by
    show z t j / z t (L t) = 0
    rw [D.zb t (Nat.zero_le _) ht j hj]
    grind
theorem dot_div {u y : Nat → Rat} {c : Rat} (hc : c ≠ 0) {w : Nat} : dot (fun j => u j / c) y w = 0 ↔ dot u y w = 0 := by
  have e : dot (fun j => u j / c) y w = dot (fun j => (1 / c) * (u j - 0 * (fun _ => (0 : Rat)) j)) y w := dot_congr (fun j _ => by grind) fun _ _ => rfl
  rw [e, dot_lin]
  constructor
  · intro h; grind
  · intro h; rw [h]; grind
end VM

set_option Elab.async false
set_option maxRecDepth 100000
namespace RX
open PySem L2 VM
open RQ (Hg Bt)
/-! ### _echelon -/
abbrev sEch : Stmt := topS 14
/-- a table of numbers -/
abbrev TabQ (C : Addr) (H : Hp) (p : Addr) (h w : Nat) (R : Nat → Addr) (A : Nat → Nat → Addr) (U : Nat → Nat → Rat) : Prop := TabAt C H p h w R A (fun i j => (U i j).num) (fun i j => ((U i j).den : Int))
/-- rows under their leads -/
def dkv (n : Nat) (l : Nat → Nat) (r : Nat → Addr) : List (Key × V) := (List.range n).map fun k => (Sum.inl ((l k : Nat) : Int), V.ref (r k))
theorem dkv_len (n : Nat) (l : Nat → Nat) (r : Nat → Addr) : (dkv n l r).length = n := by unfold dkv; rw [List.length_map, List.length_range]
theorem dkv_get {n : Nat} {l : Nat → Nat} {r : Nat → Addr} {i : Nat} (h : i < n) : (dkv n l r)[i]? = some (Sum.inl ((l i : Nat) : Int), V.ref (r i)) := by
  unfold dkv
  rw [List.getElem?_map, List.getElem?_range h]
  rfl
theorem dkv_none {n : Nat} {l : Nat → Nat} {r : Nat → Addr} {k : Nat} (h : ∀ i, i < n → l i ≠ k) : valV (dkv n l r) (Sum.inl ((k : Nat) : Int)) = none := by
  unfold valV
  have : (dkv n l r).find? (fun kv => decide (kv.1 = Sum.inl ((k : Nat) : Int))) = none := by
    rw [List.find?_eq_none]
    intro x hx
    obtain ⟨i, hi, rfl⟩ := List.mem_map.mp hx
    intro z
    have z := of_decide_eq_true z
    injection z with z
    exact h i (List.mem_range.mp hi) (by omega)
  rw [this]
  rfl
theorem dkv_some {n : Nat} {l : Nat → Nat} {r : Nat → Addr} (inj : ∀ i k, i < n → k < n → l i = l k → i = k) {k : Nat} (hk : k < n) : valV (dkv n l r) (Sum.inl ((l k : Nat) : Int)) = some (.ref (r k)) := by
  unfold valV
  have : (dkv n l r).find? (fun kv => decide (kv.1 = Sum.inl ((l k : Nat) : Int))) = some (Sum.inl ((l k : Nat) : Int), V.ref (r k)) := by
    rw [List.find?_eq_some_iff_getElem]
    refine ⟨decide_eq_true rfl, k, by rw [dkv_len]; exact hk, ?_, fun j hj => ?_⟩
    · have := dkv_get (l := l) (r := r) hk
      exact (List.getElem?_eq_some_iff.mp this).2
    · have hj2 : j < n := by omega
      have := dkv_get (l := l) (r := r) hj2
      have e := (List.getElem?_eq_some_iff.mp this).2
      rw [e]
      simp only [Bool.not_eq_eq_eq_not, Bool.not_true, decide_eq_false_iff_not]
      intro z
      injection z with z
      have := inj j k hj2 hk (by omega)
      omega
  rw [this]
  rfl
theorem dkv_snoc (n : Nat) (l : Nat → Nat) (r : Nat → Addr) (k : Nat) (a : Addr) : dkv n l r ++ [(Sum.inl ((k : Nat) : Int), V.ref a)] = dkv (n + 1) (ex l n k) (ex r n a) := by
  unfold dkv
  rw [List.range_succ, List.map_append]
  congr 1
  · refine List.map_congr_left fun i hi => ?_
    rw [ex_lt l k (List.mem_range.mp hi), ex_lt r a (List.mem_range.mp hi)]
  · rw [List.map_cons, List.map_nil, ex_same, ex_same]
/-- neither a tuple nor an instance -/
def Odd (o : HO) : Prop := (∀ xs, o ≠ .tup xs) ∧ ∀ C dx fs, o ≠ .ins C dx fs
theorem odd_frz {o : Obj} {u : HO} : Odd (.frz o u) := ⟨(fun _ z => nomatch z), (fun _ _ _ z => nomatch z)⟩
theorem odd_dK {kvs : List (Key × V)} : Odd (.dK kvs) := ⟨(fun _ z => nomatch z), (fun _ _ _ z => nomatch z)⟩
theorem RatAt.off {C : Addr} {H : Hp} {p D : Addr} {n d : Int} {o o' : HO} (h : RatAt C H p n d) (h2 : H D = some o) (k : Odd o) : RatAt C (upd H D o') p n d := by
  obtain ⟨dx, e⟩ := h
  refine ⟨dx, ?_⟩
  rw [upd_ne (fun z => by rw [z, h2] at e; exact k.2 _ _ _ (Option.some.inj e))]
  exact e
theorem RowAt.off {C : Addr} {H : Hp} {p D : Addr} {k : Nat} {a : Nat → Addr} {n d : Nat → Int} {o o' : HO} (h : RowAt C H p k a n d) (h2 : H D = some o) (q : Odd o) : RowAt C (upd H D o') p k a n d :=
  ⟨by rw [upd_ne (fun z => by have e := h.hp; rw [z, h2] at e; exact q.1 _ (Option.some.inj e))]; exact h.hp, fun i hi => (h.r i hi).off h2 q⟩
structure EchAt (C : Addr) (H : Hp) (d n w : Nat) (l : Nat → Nat) (R : Nat → Addr) (A : Nat → Nat → Addr) (v : Nat → Nat → Rat) (M : Nat → Int) (m e : Nat) : Prop where
  hd : H d = some (.dK (dkv n l R))
  r : ∀ k, k < n → RowQ C H (R k) w (A k) (v k)
  E : Ech n w l v
  b : ∀ k, k < n → VB M (bK m e k) w (v k)
/-- what is passed, and how large it may be -/
structure Fits (h w m t R : Nat) (U : Nat → Nat → Rat) (M : Nat → Int) : Prop where
  fw : w ≤ 1000
  fh : h ≤ 1000
  fM : MB M m w
  b : ∀ i, i < h → VB M t w (U i)
  fm : m ≤ 12000
  r : h ≤ R ∨ w ≤ R
  e : 2 ^ R * (2 ^ R * (t + 2 * m + 1)) ≤ 25000000
  fR : R ≤ 60
def spEch (C : Addr) : Sp := fun vs H Q _ => ∃ (p : Addr) (h w m t R : Nat) (Rr : Nat → Addr) (A : Nat → Nat → Addr) (U : Nat → Nat → Rat) (M : Nat → Int), vs = [.ref p] ∧ TabQ C H p h w Rr A U ∧ Fits h w m t R U M ∧
  ∀ (d n : Nat) (l : Nat → Nat) (R' : Nat → Addr) (A' : Nat → Nat → Addr) (v : Nat → Nat → Rat) (H' : Hp), Same H H' → H d = none → EchAt C H' d n w l R' A' v M m (t + 2 * m + 1) → n ≤ R → (∀ y, Ann n w v y ↔ Ann h w U y) → Q (.ref d) H'
theorem Fits.e1 {h w m t R : Nat} {U : Nat → Nat → Rat} {M : Nat → Int} (F : Fits h w m t R U M) : 2 ^ R * (t + 2 * m + 1) ≤ 25000000 :=
  Nat.le_trans (Nat.le_mul_of_pos_left _ (Nat.two_pow_pos R)) F.e
section
variable {P : Program} {w : World} {K : PySem.W.Frag} {mg : Str → Option Value} {base : Heap}
theorem scEc : FnScope ["rows", "by_lead", "row", "left", "lead", "other", "place"] ["rows"] (defScope sEch) := ⟨rfl, rfl, rfl, by decide +kernel, rfl, by decide +kernel, by decide +kernel⟩
theorem ok_ech {f fF fL C : Addr} {fd dF dL : FuncData} (F : Fun K "_echelon" "_echelon" sEch f fd) (cF : CalN P w K mg base "_freed" 36 ["row", "other", "lead"] (spFreed C) fF dF) (cL : CalN P w K mg base "leading_place" 2 ["row"] (spLead C) fL dL) :
    FnOk P w K mg base CX0 37 f fd ["rows"] (spEch C) := by
  refine F.ok scEc (fun vs H Q E h => ?_) (fun cdv A outer s H vs Q E hr h => ?_)
  · obtain ⟨p, h, w, m, t, R, Rr, A, U, M, rfl, _⟩ := h
    rfl
  · obtain ⟨p, hh, ww, m, t, R, Rr, A', U, M, rfl, hp, ft, kk⟩ := h
    have hu := hu_of hr
    have hr2 : Room 2 _ := hr.mono (by decide)
    refine ⟨_, pss_cons (ps_set (i := 1) scEc.nd rfl (.inl rfl) pe_dnewK)
      (pss_cons (ps_for PassesOwn.never rfl (pi_tup (pv 0)) (pg_name (i := 2) scEc.nd rfl (.inl rfl))
        (pss_cons (ps_set (i := 3) scEc.nd rfl (.inl rfl) (pv 2))
        (pss_cons (ps_lock (ps_for PassesOwn.never rfl (pi_items (pv 1)) (pg_tup rfl (pgs_cons (pg_name (i := 4) scEc.nd rfl (.inl rfl)) (pgs_cons (pg_name (i := 5) scEc.nd rfl (.inl rfl)) pgs_nil)))
          (pss_one (ps_set (i := 3) scEc.nd rfl (.inl rfl) (pe_call cF.G hr rfl cF.m cF.kp cF.b .nil pass0 (pa_cons (pv 3) (pa_cons (pv 5) (pa_cons (pv 4) pa_nil))))))))
        (pss_cons (ps_set (i := 6) scEc.nd rfl (.inl rfl) (pe_call cL.G hr2 rfl cL.m cL.kp cL.b .nil pass0 (pa_cons (pv 3) pa_nil)))
        (pss_one (ps_if (pt_cmpR op_notN (pv 6) pe_non (nomark _)) (pss_one (ps_dput hu (pv 1) (pv 6) (pv 3) rfl)) pss_nil))))))
      (pss_one (ps_ret (pv 1)))), ?_⟩
    intro d nd
    have s0 : Same H (upd H d (.dK [])) := Same.upd nd
    refine ⟨_, rfl, p, rfl, ⟨_, SqT.of (s0 _ _ hp.hp)⟩, for_tup (xs := refs hh Rr) (fun i σ H1 => ∃ o2 o3 o4 o5 o6 n l R' A1 v, σ = [some (.ref p), some (.ref d), o2, o3, o4, o5, o6] ∧ Same H H1 ∧ EchAt C H1 d n ww l R' A1 v M m (t + 2 * m + 1) ∧ n ≤ i ∧ (∀ y, Ann n ww v y ↔ Ann i ww U y))
      ⟨_, _, _, _, _, 0, fun _ => 0, fun _ => 0, fun _ _ => 0, fun _ _ => 0, rfl, s0, ⟨upd_same, fun k h => absurd h (by omega), ⟨fun k h => absurd h (by omega), fun k h => absurd h (by omega), fun k h => absurd h (by omega), fun k h => absurd h (by omega)⟩, fun k h => absurd h (by omega)⟩, Nat.le_refl _, fun y => ⟨fun _ i h => absurd h (by omega), fun _ i h => absurd h (by omega)⟩⟩
      (fun i σ H1 _ ⟨_, _, _, _, _, _, _, _, _, _, _, s1, _⟩ => SqT.of (s1 _ _ hp.hp)) ?_ ?_⟩
    · rintro i x σ H1 hx ⟨o2, o3, o4, o5, o6, n, l, R', A1, v, rfl, s1, E, hni, ann⟩
      obtain ⟨hi, rfl⟩ := refs_lt hx
      have hrow := (hp.r i hi).same s1
      have hnR : n ≤ R := by
        rcases ft.r with z | z
        · omega
        · have := E.E.le
          omega
      refine ⟨_, rfl, d, _, E.hd, trivial, fun od => ?_⟩
      have hfr : upd H1 d (.frz od (.dK (dkv n l R'))) d = some (.frz od (.dK (dkv n l R'))) := upd_same
      have hrow2 : RowQ C (upd H1 d (.frz od (.dK (dkv n l R')))) (Rr i) ww (A' i) (U i) := hrow.off E.hd odd_dK
      have hr2' : ∀ k, k < n → RowQ C (upd H1 d (.frz od (.dK (dkv n l R')))) (R' k) ww (A1 k) (v k) := fun k hk => (E.r k hk).off E.hd odd_dK
      have sfr : ∀ H2, Same (upd H1 d (.frz od (.dK (dkv n l R')))) H2 → Same H (upd H2 d (.dK (dkv n l R'))) := fun H2 s2 b o e => by
        have ne := ne_of_none e nd
        rw [upd_ne ne]
        exact s2 _ _ (by rw [upd_ne ne]; exact s1 _ _ e)
      generalize upd H1 d (.frz od (.dK (dkv n l R'))) = H2 at *
      refine ⟨_, rfl, d, od, _, rfl, hfr, for_it (walk_items (d := d) (o := od) (kvs := dkv n l R')) (fun k σ H3 => ∃ o4 o5 la a' u', σ = [some (.ref p), some (.ref d), some (.ref (Rr i)), some (.ref la), o4, o5, o6] ∧ Same H2 H3 ∧ RowQ C H3 la ww a' u' ∧
          (∀ q, q < k → u' (l q) = 0) ∧ (∀ y, Ann n ww v y → (dot u' y ww = 0 ↔ dot (U i) y ww = 0)) ∧ VB M (bK m (t + 2 * m + 1) k) ww u')
        ⟨_, _, Rr i, A' i, U i, rfl, Same.refl _, hrow2, fun q h => absurd h (by omega), fun y _ => Iff.rfl, (ft.b i hi).up (by unfold bK; omega)⟩ (fun k σ H3 _ ⟨_, _, _, _, _, _, s3, _⟩ => s3 _ _ hfr) ?_ ?_⟩
      · rintro k x σ H3 H4 hk ⟨o4, o5, la, a', u', rfl, s3, hla, hz, hd, hb⟩ ⟨T, x1, y1, rfl, nT, rfl, e1, e2⟩
        rw [dkv_len] at hk
        have e1 : ((dkv n l R')[k]?).map (fun kv => kV kv.1) = some x1 := e1
        have e2 : ((dkv n l R')[k]?).map Prod.snd = some y1 := e2
        rw [dkv_get hk] at e1 e2
        cases e1
        cases e2
        have s4 : Same H2 (upd H3 T (.tup [.int ((l k : Nat) : Int), .ref (R' k)])) := s3.trans (Same.upd nT)
        refine ⟨T, _, rfl, SqT.of upd_same, rfl, _, _, rfl, _, _, rfl, rfl, ?_⟩
        have hsz : bK m (t + 2 * m + 1) k ≤ 25000000 := bK_max (by omega) (by omega : k ≤ R) ft.e1
        refine ⟨_, rfl, _, rfl, _, rfl, la, R' k, ww, l k, m, _, _, a', A1 k, u', v k, M, rfl, hla.same (Same.upd nT), (hr2' k hk).same s4, ft.fw, E.E.lt k hk, E.E.nz k hk, hb, E.b k hk, ft.fM, ft.fm, by omega, fun r a2 u2 H5 s5 h5 le vb => ?_⟩
        refine ⟨_, _, r, a2, u2, rfl, s4.trans s5, h5, fun q hq => ?_, fun y hy => ?_, vb⟩
        · by_cases e : q = k
          · rw [e]; exact le.at (E.E.lt k hk) (E.E.nz k hk)
          · exact le.zero (E.E.lt q (by omega)) (hz q (by omega)) (E.E.zz k hk q (by omega))
        · exact (le.dot (hy k hk)).trans (hd y hy)
      · rintro σ H3 ⟨o4, o5, la, a', u', rfl, s3, hla, hz, hd, hb⟩
        rw [dkv_len] at hz hb
        refine ⟨s3 _ _ hfr, ?_⟩
        have s6 := sfr H3 s3
        have hla6 : RowQ C (upd H3 d (.dK (dkv n l R'))) la ww a' u' := hla.off (s3 _ _ hfr) odd_frz
        have hr6 : ∀ k, k < n → RowQ C (upd H3 d (.dK (dkv n l R'))) (R' k) ww (A1 k) (v k) := fun k hk => ((hr2' k hk).same s3).off (s3 _ _ hfr) odd_frz
        have hd6 : upd H3 d (.dK (dkv n l R')) d = some (.dK (dkv n l R')) := upd_same
        generalize upd H3 d (.dK (dkv n l R')) = H6 at *
        refine ⟨_, rfl, la, ww, a', u', rfl, hla6, ft.fw, fun k H7 hk s7 => ?_, fun h0 H7 s7 => ?_⟩
        · refine ⟨_, rfl, rfl, _, rfl, ?_⟩
          refine iteT' (by rw [decide_eq_false (fun z => nomatch z)]; rfl) ?_
          have hd7 := s7 _ _ hd6
          have nk : ∀ q, q < n → l q ≠ k := fun q hq e => hk.2.1 (by rw [← e]; exact hz q hq)
          refine ⟨_, rfl, _, rfl, _, rfl, d, _, rfl, DPut.k (k := Sum.inl ((k : Nat) : Int)) hd7 (by rw [dkv_len]; exact small1000 (by have := ft.fR; omega)), ?_⟩
          rw [putK_new _ (dkv_none nk), dkv_snoc]
          refine ⟨_, _, _, _, _, n + 1, ex l n k, ex R' n la, ex A1 n a', ex v n u', rfl, fun b o e => by rw [upd_ne (ne_of_none e nd)]; exact s7 _ _ (s6 _ _ e), ⟨upd_same, fun q hq => ?_, E.E.more hk.1 hk.2.1 hk.2.2 hz, fun q hq => ?_⟩, by omega, fun y => ?_⟩
          · by_cases e : q = n
            · subst e; rw [ex_same, ex_same, ex_same]
              exact (hla6.same s7).off hd7 odd_dK
            · rw [ex_lt R' la (by omega), ex_lt A1 a' (by omega), ex_lt v u' (by omega)]
              exact ((hr6 q (by omega)).same s7).off hd7 odd_dK
          · by_cases e : q = n
            · subst e; rw [ex_same]; exact hb
            · rw [ex_lt v u' (by omega)]; exact E.b q (by omega)
          · rw [ann_succ, ann_more, ← ann y]
            constructor
            · intro z; exact ⟨z.1, (hd y z.1).mp z.2⟩
            · intro z; exact ⟨z.1, (hd y z.1).mpr z.2⟩
        · refine ⟨_, rfl, rfl, _, rfl, ?_⟩
          refine iteF' (by rw [decide_eq_true rfl]; rfl) ?_
          refine ⟨_, _, _, _, _, n, l, R', A1, v, rfl, s6.trans s7, ⟨s7 _ _ hd6, fun k hk => (hr6 k hk).same s7, E.E, E.b⟩, by omega, fun y => ?_⟩
          rw [ann_more, ← ann y]
          constructor
          · intro z; exact ⟨z, (hd y z).mp (dot_zero fun j hj => by rw [h0 j hj]; grind)⟩
          · intro z; exact z.1
    · rintro σ H1 ⟨o2, o3, o4, o5, o6, n, l, R', A1, v, rfl, s1, E, hni, ann⟩
      rw [refs_len] at hni ann
      refine ⟨_, rfl, kk d n l R' A1 v H1 s1 nd E ?_ ann⟩
      rcases ft.r with z | z
      · omega
      · have := E.E.le
        omega
end
end RX

set_option Elab.async false
set_option maxRecDepth 100000
namespace VM
open RQ
/-- leads sorted -/
theorem sorted_of {n : Nat} {l : Nat → Nat} (inj : ∀ i k, i < n → k < n → l i = l k → i = k) {ys : List Int} (hp : ys.Perm ((List.range n).map fun k => ((l k : Nat) : Int))) (hs : ys.Pairwise (· ≤ ·)) :
    ∃ L κ : Nat → Nat, ys = (List.range n).map (fun t => ((L t : Nat) : Int)) ∧ (∀ t, t < n → κ t < n ∧ l (κ t) = L t) ∧ (∀ s t, s < t → t < n → L s < L t) ∧ ∀ k, k < n → ∃ t, t < n ∧ κ t = k := by
  have len : ys.length = n := by rw [hp.length_eq, List.length_map, List.length_range]
  have nd : ys.Nodup := by
    refine hp.nodup_iff.mpr ?_
    rw [List.nodup_iff_pairwise_ne, List.pairwise_map]
    refine List.Pairwise.imp_of_mem ?_ (List.nodup_iff_pairwise_ne.mp List.nodup_range)
    intro a b ha hb ne e
    exact ne (inj a b (List.mem_range.mp ha) (List.mem_range.mp hb) (by omega))
  have at_ : ∀ t, t < n → ∃ k, k < n ∧ ys.getD t 0 = ((l k : Nat) : Int) := fun t ht => by
    have hm : ys.getD t 0 ∈ ys := by
      rw [List.getD_eq_getElem?_getD, List.getElem?_eq_getElem (by omega)]
      exact List.getElem_mem _
    obtain ⟨k, hk, e⟩ := List.mem_map.mp (hp.mem_iff.mp hm)
    exact ⟨k, List.mem_range.mp hk, e.symm⟩
  have ch : ∀ t, ∃ k, t < n → k < n ∧ ys.getD t 0 = ((l k : Nat) : Int) := fun t => by
    by_cases ht : t < n
    · obtain ⟨k, hk⟩ := at_ t ht
      exact ⟨k, fun _ => hk⟩
    · exact ⟨0, fun h => absurd h ht⟩
  obtain ⟨κ, hκ⟩ := Classical.axiomOfChoice ch
  have gL : ∀ t, t < n → ys[t]? = some ((l (κ t) : Nat) : Int) := fun t ht => by
    have := (hκ t ht).2
    rw [List.getD_eq_getElem?_getD, List.getElem?_eq_getElem (by omega)] at this
    rw [List.getElem?_eq_getElem (by omega)]
    exact congrArg some this
  refine ⟨fun t => l (κ t), κ, ?_, fun t ht => ⟨(hκ t ht).1, rfl⟩, fun s t hst ht => ?_, fun k hk => ?_⟩
  · refine List.ext_getElem? fun t => ?_
    by_cases ht : t < n
    · rw [gL t ht, List.getElem?_map, List.getElem?_range ht]
      rfl
    · rw [List.getElem?_eq_none (by omega), List.getElem?_eq_none (by rw [List.length_map, List.length_range]; omega)]
  · have h1 := List.pairwise_iff_getElem.mp hs s t (by omega) (by omega) hst
    have h2 := List.pairwise_iff_getElem.mp (List.nodup_iff_pairwise_ne.mp nd) s t (by omega) (by omega) hst
    have e1 := (List.getElem?_eq_some_iff.mp (gL s (by omega))).2
    have e2 := (List.getElem?_eq_some_iff.mp (gL t ht)).2
    rw [e1, e2] at h1 h2
    show l (κ s) < l (κ t)
    omega
  · have hm : ((l k : Nat) : Int) ∈ ys := hp.mem_iff.mpr (List.mem_map.mpr ⟨k, List.mem_range.mpr hk, rfl⟩)
    obtain ⟨t, ht, e⟩ := List.mem_iff_getElem.mp hm
    have htn : t < n := by omega
    have e2 := (List.getElem?_eq_some_iff.mp (gL t htn)).2
    refine ⟨t, htn, inj _ _ (hκ t htn).1 hk ?_⟩
    rw [e] at e2
    omega
/-- done rows turned about are a table in reduced form -/
theorem Ech.rref {n w : Nat} {L : Nat → Nat} {z : Nat → Nat → Rat} (E : Ech n w (fun j => L (n - 1 - j)) z) (up : ∀ s t, s < t → t < n → L s < L t) :
    Rref n w (fun t j => z (n - 1 - t) j / z (n - 1 - t) (L t)) L := by
  have back : ∀ t, t < n → n - 1 - (n - 1 - t) = t := fun t h => by omega
  have nz : ∀ t, t < n → z (n - 1 - t) (L t) ≠ 0 := fun t ht => by
    have := E.nz (n - 1 - t) (by omega)
    simp only [back t ht] at this
    exact this
  have zb : ∀ t, t < n → ∀ j, j < L t → z (n - 1 - t) j = 0 := fun t ht j hj => by
    refine E.zb (n - 1 - t) (by omega) j ?_
    simp only [back t ht]
    exact hj
  refine ⟨fun t ht => ?_, up, fun t ht => ?_, fun s t hs ht ne => ?_, fun t ht j hj => ?_⟩
  · have := E.lt (n - 1 - t) (by omega)
    simp only [back t ht] at this
    exact this
  · have := nz t ht
    grind
  · have h0 : z (n - 1 - s) (L t) = 0 := by
      rcases Nat.lt_or_ge s t with h | h
      · have := E.zz (n - 1 - s) (by omega) (n - 1 - t) (by omega)
        simp only [back t ht] at this
        exact this
      · exact zb s hs _ (up t s (by omega) hs)
    show z (n - 1 - s) (L t) / z (n - 1 - s) (L s) = 0
    rw [h0]
    grind
  · show z (n - 1 - t) j / z (n - 1 - t) (L t) = 0
    rw [zb t ht j hj]
    grind
/-- a place by another one of the same row: sizes -/
theorem div_bt {M : Nat → Int} {m b w l j : Nat} {u : Nat → Rat} (hu : VB M b w u) (k : MB M m w) (hl : l < w) (hj : j < w) (u0 : u l ≠ 0) : Bt (b + m) (u j / u l).num ∧ Bt (b + m) ((u j / u l).den : Int) := by
  have e1 := nd (u j)
  have e2 := nd (u l)
  have d1 := den0 (u j)
  have d2 := den0 (u l)
  have n2 : (u l).num ≠ 0 := fun z => u0 (num0.mp z)
  have p1 : ((u j).den : Int) ≠ 0 := by have := (u j).den_pos; omega
  have p2 : ((u l).den : Int) ≠ 0 := by have := (u l).den_pos; omega
  have e : (((u j).num * ((u l).den : Int) : Int) : Rat) = u j / u l * (((((u j).den : Int) * (u l).num) : Int) : Rat) := by
    rw [Rat.intCast_mul, Rat.intCast_mul, e1, e2]
    grind
  obtain ⟨q1, q2⟩ := den_dvd (Int.mul_ne_zero p1 n2) e
  refine ⟨?_, dvd_bt q1 (Int.mul_ne_zero p1 n2) (((hu.den k hj).mul (hu.n l hl)).up (by omega))⟩
  by_cases z : (u j).num = 0
  · have : u j / u l = 0 := by rw [num0.mp z]; grind
    rw [this]
    exact Nat.two_pow_pos _
  · exact dvd_bt q2 (Int.mul_ne_zero z p2) ((hu.n j hj).mul (hu.den k hl))
end VM

set_option Elab.async false
set_option maxRecDepth 100000
namespace RX
open PySem L2 VM
open RQ (Hg Bt)
/-! ### reduced -/
abbrev sReduced : Stmt := topS 12
def spReduced (C : Addr) : Sp := fun vs H Q _ => ∃ (p : Addr) (h w m t R : Nat) (Rr : Nat → Addr) (A : Nat → Nat → Addr) (U : Nat → Nat → Rat) (M : Nat → Int), vs = [.ref p] ∧ TabQ C H p h w Rr A U ∧ Fits h w m t R U M ∧
  ∀ (r c : Nat) (L : Nat → Nat) (S : Nat → Addr) (B : Nat → Nat → Addr) (F : Nat → Nat → Rat) (H' : Hp), Same H H' → H r = none → TabQ C H' r c w S B F → Rref c w F L → c ≤ R → (∀ y, Ann c w F y ↔ Ann h w U y) →
    (∀ s, s < c → ∀ j, j < w → Bt (2 ^ R * (2 ^ R * (t + 2 * m + 1)) + m) (F s j).num ∧ Bt (2 ^ R * (2 ^ R * (t + 2 * m + 1)) + m) ((F s j).den : Int)) → Q (.ref r) H'
theorem TabAt.off {C : Addr} {H : Hp} {p D : Addr} {h w : Nat} {R : Nat → Addr} {A : Nat → Nat → Addr} {N Dn : Nat → Nat → Int} {o o' : HO} (x : TabAt C H p h w R A N Dn) (h2 : H D = some o) (q : Odd o) : TabAt C (upd H D o') p h w R A N Dn :=
  ⟨by rw [upd_ne (fun z => by have e := x.hp; rw [z, h2] at e; exact q.1 _ (Option.some.inj e))]; exact x.hp, fun i hi => (x.r i hi).off h2 q⟩
section
variable {P : Program} {w : World} {K : PySem.W.Frag} {mg : Str → Option Value} {base : Heap}
theorem scRe : FnScope ["rows", "by_lead", "leads", "done", "lead", "row", "later", "other"] ["rows"] (defScope sReduced) := ⟨rfl, rfl, rfl, by decide +kernel, rfl, by decide +kernel, by decide +kernel⟩
theorem ok_reduced {f fE fF fO C : Addr} {fd dE dF dO : FuncData} (F : Fun K "reduced" "reduced" sReduced f fd) (T : TxtP mg) (ms : mg "sorted" = none) (mr : mg "reversed" = none) (cE : CalN P w K mg base "_echelon" 37 ["rows"] (spEch C) fE dE) (cF : CalN P w K mg base "_freed" 36 ["row", "other", "lead"] (spFreed C) fF dF)
    (cO : CalN P w K mg base "_with_lead_one" 36 ["row", "lead"] (spOne C) fO dO) : FnOk P w K mg base CX0 38 f fd ["rows"] (spReduced C) := by
  refine F.ok scRe (fun vs H Q E h => ?_) (fun cdv A outer s H vs Q E hr h => ?_)
  · obtain ⟨p, h, w, m, t, R, Rr, A, U, M, rfl, _⟩ := h
    rfl
  · obtain ⟨p, hh, ww, m, t, R, Rr, A', U, M, rfl, hp, ft, kk⟩ := h
    have hu := hu_of hr
    have hr36 : Room 36 _ := hr.mono (by decide)
    refine ⟨_, pss_cons (ps_set (i := 1) scRe.nd rfl (.inl rfl) (pe_call cE.G hr rfl cE.m cE.kp cE.b .nil pass0 (pa_cons (pv 0) pa_nil)))
      (pss_cons (ps_set (i := 2) scRe.nd rfl (.inl rfl) (pe_callB (call_sortedDI rfl) (by rfl) ms (by decide +kernel) (pa_cons (pv 1) pa_nil)))
      (pss_cons (ps_set (i := 3) scRe.nd rfl (.inr rfl) pe_dnewK)
      (pss_cons (ps_for PassesOwn.never rfl (pi_reversed (by rfl) mr (pa_cons (pv 2) pa_nil)) (pg_name (i := 4) scRe.nd rfl (.inl rfl))
        (pss_cons (ps_set (i := 5) scRe.nd rfl (.inl rfl) (pe_dget hu (pv 1) (pv 4) (fun _ _ => rfl)))
        (pss_cons (ps_lock (ps_for PassesOwn.never rfl (pi_items (pv 3)) (pg_tup rfl (pgs_cons (pg_name (i := 6) scRe.nd rfl (.inl rfl)) (pgs_cons (pg_name (i := 7) scRe.nd rfl (.inl rfl)) pgs_nil)))
          (pss_one (ps_set (i := 5) scRe.nd rfl (.inl rfl) (pe_call cF.G hr36 rfl cF.m cF.kp cF.b .nil pass0 (pa_cons (pv 5) (pa_cons (pv 7) (pa_cons (pv 6) pa_nil))))))))
        (pss_one (ps_dput hu (pv 3) (pv 4) (pv 5) rfl)))))
      (pss_one (ps_ret (pe_callTy call_tuple_of (by rfl) T.tup (by decide +kernel) (pa_cons (pe_lc (own := [("lead", 4)]) (g := gName 4) (tt := tYes) rfl scRe.nd (pi_list (pv 2)) (blkOk_by (N := ["rows", "by_lead", "leads", "done", "lead", "row", "later", "other"]) (sc := defScope sReduced) (by decide +kernel))
        (fun _ _ _ _ _ => pg_name (i := 4) scRe.nd rfl (Or.inl rfl)) (fun _ _ _ _ _ => pts_nil) (fun _ _ _ _ _ => pe_call cO.G hr36 rfl cO.m cO.kp cO.b .nil pass0 (pa_cons (pe_dget hu (pv 3) (pv 4) (fun _ _ => rfl)) (pa_cons (pv 4) pa_nil)))) pa_nil))))))), ?_⟩
    refine ⟨_, rfl, p, hh, ww, m, t, R, Rr, A', U, M, rfl, hp, ft, fun d n l R1 A1 v H1 s1 nd EA hnR ann => ?_⟩
    have E := EA.E
    have nW : n ≤ ww := E.le
    refine ⟨_, rfl, d, dkv n l R1, (List.range n).map (fun k => ((l k : Nat) : Int)), rfl, .inl EA.hd, by unfold dkv; rw [List.map_map, List.map_map]; rfl, by rw [List.length_map, List.length_range]; have := ft.fR; omega, fun ys G pys sys nG => ?_⟩
    obtain ⟨L, κ, rfl, hκ, up, onto⟩ := sorted_of (fun i k hi hk e => E.inj hi hk e) pys sys
    have eG : ((List.range n).map (fun t => ((L t : Nat) : Int))).map V.int = intV n (fun t => ((L t : Nat) : Int)) := by
      unfold intV
      rw [List.map_map]
      rfl
    rw [eG]
    have s2 : Same H1 (upd H1 G (.lst (intV n (fun t => ((L t : Nat) : Int))))) := Same.upd nG
    have hG2 : upd H1 G (.lst (intV n (fun t => ((L t : Nat) : Int)))) G = some (.lst (intV n (fun t => ((L t : Nat) : Int)))) := upd_same
    generalize upd H1 G (.lst (intV n (fun t => ((L t : Nat) : Int)))) = H2 at *
    intro D nD
    have dD : d ≠ D := ne_of_none (s2 _ _ EA.hd) nD
    have s3 : Same H2 (upd H2 D (.dK [])) := Same.upd nD
    have hB : bK m (t + 2 * m + 1) R + (2 * m + 1) = 2 ^ R * (t + 2 * m + 1) := bK_le (by omega) R
    have hz : ∀ j, j ≤ R → bK m (2 ^ R * (t + 2 * m + 1)) j ≤ 25000000 := fun j hj => bK_max (by omega) hj ft.e
    have rowAt : ∀ k, k < n → RowQ C H2 (R1 k) ww (A1 k) (v k) := fun k hk => (EA.r k hk).same s2
    have hd2 := s2 _ _ EA.hd
    have L_lt : ∀ t, t < n → L t < ww := fun t ht => by rw [← (hκ t ht).2]; exact E.lt _ (hκ t ht).1
    refine ⟨_, rfl, G, _, rfl, SqL.of (s3 _ _ hG2), for_it (walk_rev (K := K) (a := G) (xs := intV n (fun t => ((L t : Nat) : Int)))) (fun i σ H3 => ∃ o4 o5 o6 o7 R3 A3 z, σ = [some (.ref p), some (.ref d), some (.ref G), some (.ref D), o4, o5, o6, o7] ∧ Same H2 H3 ∧
        EchAt C H3 D i ww (fun j => L (n - 1 - j)) R3 A3 z M m (2 ^ R * (t + 2 * m + 1)) ∧ ∀ y, Ann i ww z y ↔ ∀ j, j < i → dot (v (κ (n - 1 - j))) y ww = 0)
      ⟨_, _, _, _, fun _ => 0, fun _ _ => 0, fun _ _ => 0, rfl, s3, ⟨upd_same, fun k h => absurd h (by omega), ⟨fun k h => absurd h (by omega), fun k h => absurd h (by omega), fun k h => absurd h (by omega), fun k h => absurd h (by omega)⟩, fun k h => absurd h (by omega)⟩, fun y => ⟨fun _ i h => absurd h (by omega), fun _ i h => absurd h (by omega)⟩⟩
      (fun i σ H3 _ ⟨_, _, _, _, _, _, _, _, s4, _⟩ => SqL.of (s4 _ _ hG2)) ?_ ?_⟩
    · rintro i x σ H3 H4 hi ⟨o4, o5, o6, o7, R3, A3, z, rfl, s4, E3, an3⟩ ⟨rfl, hx⟩
      rw [intV_len] at hi hx
      have hx : (intV n (fun t => ((L t : Nat) : Int)))[n - 1 - i]? = some x := hx
      rw [intV_get (by omega)] at hx
      cases hx
      obtain ⟨k1, k2⟩ := hκ (n - 1 - i) (by omega)
      generalize hκi : κ (n - 1 - i) = ki at k1 k2
      have hrow := (rowAt ki k1).same s4
      have hget : DGet H4 d (kV (Sum.inl ((L (n - 1 - i) : Nat) : Int))) (some (.ref (R1 ki))) := by
        have := DGet.k (k := Sum.inl ((L (n - 1 - i) : Nat) : Int)) (s4 _ _ hd2)
        rw [← k2, dkv_some (fun i k hi hk e => E.inj hi hk e) k1] at this
        rw [← k2]
        exact this
      refine ⟨_, rfl, _, rfl, d, _, rfl, hget, ?_⟩
      refine ⟨D, _, E3.hd, trivial, fun od => ?_⟩
      have hfr : upd H4 D (.frz od (.dK (dkv i (fun j => L (n - 1 - j)) R3))) D = some (.frz od (.dK (dkv i (fun j => L (n - 1 - j)) R3))) := upd_same
      have hrow2 := hrow.off (o' := .frz od (.dK (dkv i (fun j => L (n - 1 - j)) R3))) E3.hd odd_dK
      have hr2' := fun k (hk : k < i) => (E3.r k hk).off (o' := .frz od (.dK (dkv i (fun j => L (n - 1 - j)) R3))) E3.hd odd_dK
      have sfr : ∀ H5, Same (upd H4 D (.frz od (.dK (dkv i (fun j => L (n - 1 - j)) R3)))) H5 → ∀ o, Same H2 (upd H5 D o) := fun H5 s5 o b ob e => by
        have ne := ne_of_none e nD
        rw [upd_ne ne]
        exact s5 _ _ (by rw [upd_ne ne]; exact s4 _ _ e)
      generalize upd H4 D (.frz od (.dK (dkv i (fun j => L (n - 1 - j)) R3))) = H5 at *
      have lti : ∀ q, q < i → L (n - 1 - i) < L (n - 1 - q) := fun q hq => up _ _ (by omega) (by omega)
      refine ⟨_, rfl, D, od, _, rfl, hfr, for_it (walk_items (d := D) (o := od) (kvs := dkv i (fun j => L (n - 1 - j)) R3)) (fun k σ H6 => ∃ o6 o7 la a' u', σ = [some (.ref p), some (.ref d), some (.ref G), some (.ref D), some (.int ((L (n - 1 - i) : Nat) : Int)), some (.ref la), o6, o7] ∧ Same H5 H6 ∧ RowQ C H6 la ww a' u' ∧
          (∀ q, q < k → u' (L (n - 1 - q)) = 0) ∧ u' (L (n - 1 - i)) ≠ 0 ∧ (∀ j, j < L (n - 1 - i) → u' j = 0) ∧ (∀ y, Ann i ww z y → (dot u' y ww = 0 ↔ dot (v ki) y ww = 0)) ∧ VB M (bK m (2 ^ R * (t + 2 * m + 1)) k) ww u')
        ⟨_, _, R1 ki, A1 ki, v ki, rfl, Same.refl _, hrow2, fun q h => absurd h (by omega), by rw [← k2]; exact E.nz ki k1, fun j hj => E.zb ki k1 j (by rw [k2]; exact hj), fun y _ => Iff.rfl, (EA.b ki k1).up (by
            have := bK_mono (m := m) (e := t + 2 * m + 1) (show ki ≤ R by omega)
            show bK m (t + 2 * m + 1) ki ≤ 2 ^ R * (t + 2 * m + 1) - (2 * m + 1)
            omega)⟩ (fun k σ H6 _ ⟨_, _, _, _, _, _, s6, _⟩ => s6 _ _ hfr) ?_ ?_⟩
      · rintro k x σ H6 H7 hk ⟨o6, o7, la, a', u', rfl, s6, hla, hz1, hz2, hz3, hd, hb⟩ ⟨Tn, x1, y1, rfl, nT, rfl, e1, e2⟩
        rw [dkv_len] at hk
        have e1 : ((dkv i (fun j => L (n - 1 - j)) R3)[k]?).map (fun kv => kV kv.1) = some x1 := e1
        have e2 : ((dkv i (fun j => L (n - 1 - j)) R3)[k]?).map Prod.snd = some y1 := e2
        rw [dkv_get hk] at e1 e2
        cases e1
        cases e2
        have s7 : Same H5 (upd H6 Tn (.tup [.int ((L (n - 1 - k) : Nat) : Int), .ref (R3 k)])) := s6.trans (Same.upd nT)
        refine ⟨Tn, _, rfl, SqT.of upd_same, rfl, _, _, rfl, _, _, rfl, rfl, ?_⟩
        have hsz := hz k (by omega)
        refine ⟨_, rfl, _, rfl, _, rfl, la, R3 k, ww, L (n - 1 - k), m, _, _, a', A3 k, u', z k, M, rfl, hla.same (Same.upd nT), (hr2' k hk).same s7, ft.fw, L_lt _ (by omega), E3.E.nz k hk, hb, E3.b k hk, ft.fM, ft.fm, by omega, fun r a2 u2 H8 s8 h8 le vb => ?_⟩
        refine ⟨_, _, r, a2, u2, rfl, s7.trans s8, h8, fun q hq => ?_, ?_, fun j hj => ?_, fun y hy => ?_, vb⟩
        · by_cases e : q = k
          · rw [e]; exact le.at (L_lt _ (by omega)) (E3.E.nz k hk)
          · exact le.zero (L_lt _ (by omega)) (hz1 q (by omega)) (E3.E.zz k hk q (by omega))
        · exact le.keep (L_lt _ (by omega)) hz2 (E3.E.zb k hk _ (lti k hk))
        · exact le.zero (by have := L_lt (n - 1 - i) (by omega); omega) (hz3 j hj) (E3.E.zb k hk _ (Nat.lt_trans hj (lti k hk)))
        · exact (le.dot (hy k hk)).trans (hd y hy)
      · rintro σ H6 ⟨o6, o7, la, a', u', rfl, s6, hla, hz1, hz2, hz3, hd, hb⟩
        rw [dkv_len] at hz1 hb
        refine ⟨s6 _ _ hfr, ?_⟩
        have s7 := sfr H6 s6
        have hla7 := hla.off (o' := .dK (dkv i (fun j => L (n - 1 - j)) R3)) (s6 _ _ hfr) odd_frz
        have hr7 := fun k (hk : k < i) => ((hr2' k hk).same s6).off (o' := .dK (dkv i (fun j => L (n - 1 - j)) R3)) (s6 _ _ hfr) odd_frz
        have hd7 : upd H6 D (.dK (dkv i (fun j => L (n - 1 - j)) R3)) D = some (.dK (dkv i (fun j => L (n - 1 - j)) R3)) := upd_same
        have s77 := s7 (.dK (dkv i (fun j => L (n - 1 - j)) R3))
        generalize upd H6 D (.dK (dkv i (fun j => L (n - 1 - j)) R3)) = H7 at *
        have nk : ∀ q, q < i → L (n - 1 - q) ≠ L (n - 1 - i) := fun q hq => Nat.ne_of_gt (lti q hq)
        refine ⟨_, rfl, _, rfl, _, rfl, D, _, rfl, DPut.k (k := Sum.inl ((L (n - 1 - i) : Nat) : Int)) hd7 (by rw [dkv_len]; exact small1000 (by have := ft.fR; omega)), ?_⟩
        rw [putK_new _ (dkv_none nk), dkv_snoc]
        have el : ex (fun j => L (n - 1 - j)) i (L (n - 1 - i)) = fun j => L (n - 1 - j) := by
          funext j
          by_cases e : j = i
          · subst e; rw [ex_same]
          · exact if_neg e
        rw [el]
        have Em := E3.E.more (L_lt (n - 1 - i) (by omega)) hz2 hz3 hz1
        rw [el] at Em
        refine ⟨_, _, _, _, ex R3 i la, ex A3 i a', ex z i u', rfl, fun b o e => by rw [upd_ne (ne_of_none e nD)]; exact s77 _ _ e, ⟨upd_same, fun q hq => ?_, Em, fun q hq => ?_⟩, fun y => ?_⟩
        · by_cases e : q = i
          · subst e; rw [ex_same, ex_same, ex_same]
            exact hla7.off hd7 odd_dK
          · rw [ex_lt R3 la (by omega), ex_lt A3 a' (by omega), ex_lt z u' (by omega)]
            exact (hr7 q (by omega)).off hd7 odd_dK
        · by_cases e : q = i
          · subst e; rw [ex_same]; exact hb
          · rw [ex_lt z u' (by omega)]; exact E3.b q (by omega)
        · rw [ann_succ, an3 y]
          constructor
          · intro h j hj
            by_cases e : j = i
            · subst e
              rw [hκi]
              exact (hd y ((an3 y).mpr h.1)).mp h.2
            · exact h.1 j (by omega)
          · intro h
            have h1 : ∀ j, j < i → dot (v (κ (n - 1 - j))) y ww = 0 := fun j hj => h j (by omega)
            refine ⟨h1, (hd y ((an3 y).mpr h1)).mpr ?_⟩
            have := h i (by omega)
            rw [hκi] at this
            exact this
    · rintro σ H3 ⟨o4, o5, o6, o7, R3, A3, z, rfl, s4, E3, an3⟩
      rw [intV_len] at E3 an3
      refine ⟨_, rfl, G, rfl, ⟨_, SqL.of (s4 _ _ hG2)⟩, fun Dl nDl => ?_⟩
      have back : ∀ t, t < n → n - 1 - (n - 1 - t) = t := fun t h => by omega
      have nz : ∀ t, t < n → z (n - 1 - t) (L t) ≠ 0 := fun t ht => by
        have := E3.E.nz (n - 1 - t) (by omega)
        simp only [back t ht] at this
        exact this
      have vb : ∀ t, t < n → VB M 25000000 ww (z (n - 1 - t)) := fun t ht => (E3.b (n - 1 - t) (by omega)).up (hz _ (by omega))
      refine lc_list (K := K) (a := G) (xs := intV n (fun t => ((L t : Nat) : Int))) (fun i H4 => ∃ S, Built (fun H t x => ∃ a, RowQ C H x ww a (fun j => z (n - 1 - t) j / z (n - 1 - t) (L t))) H3 Dl i S H4) ⟨_, built0 nDl⟩ (fun i H4 _ ⟨S, Bu⟩ => SqL.of (Bu.s _ _ (s4 _ _ hG2))) ?_ ?_
      · rintro i x H4 hx ⟨S, Bu⟩
        obtain ⟨hi, rfl⟩ := intV_lt hx
        have inj3 : ∀ a b, a < n → b < n → (fun j => L (n - 1 - j)) a = (fun j => L (n - 1 - j)) b → a = b := fun a b ha hb e => E3.E.inj ha hb e
        have hget : DGet H4 D (kV (Sum.inl ((L i : Nat) : Int))) (some (.ref (R3 (n - 1 - i)))) := by
          have g := DGet.k (k := Sum.inl ((L i : Nat) : Int)) (Bu.s _ _ E3.hd)
          have e := dkv_some (r := R3) inj3 (k := n - 1 - i) (by omega)
          simp only [back i hi] at e
          rw [e] at g
          exact g
        refine ⟨rfl, ?_⟩
        refine ⟨_, rfl, _, rfl, D, _, rfl, hget, _, rfl, R3 (n - 1 - i), ww, L i, A3 (n - 1 - i), z (n - 1 - i), rfl, (E3.r (n - 1 - i) (by omega)).same Bu.s, ft.fw, L_lt i hi, nz i hi, fun j hj => ⟨((vb i hi).n j hj).hg (by omega), ((vb i hi).den ft.fM hj).hg (by have := ft.fm; omega)⟩, fun r S' H5 s5 nr hR => ?_⟩
        exact ⟨_, s5 _ _ Bu.hD, by rw [refs_len]; exact small1000 (by have := ft.fR; omega), _, Bu.step (stays_row (n := fun t j => (z (n - 1 - t) j / z (n - 1 - t) (L t)).num) (d := fun t j => ((z (n - 1 - t) j / z (n - 1 - t) (L t)).den : Int))) nDl s5 ⟨_, hR⟩⟩
      · rintro H4 ⟨S, Bu⟩
        have Bu : Built _ H3 Dl (intV n (fun t => ((L t : Nat) : Int))).length S H4 := Bu
        rw [intV_len] at Bu
        refine ⟨Dl, _, rfl, .inl ⟨SqL.of Bu.hD, fun r nr => ?_⟩⟩
        obtain ⟨B2, tab⟩ := Bu.tab (n := fun t j => (z (n - 1 - t) j / z (n - 1 - t) (L t)).num) (d := fun t j => ((z (n - 1 - t) j / z (n - 1 - t) (L t)).den : Int)) nr
        have sA := ((s1.trans s2).trans s4).trans Bu.s
        refine kk r n L S B2 (fun t j => z (n - 1 - t) j / z (n - 1 - t) (L t)) _ (sA.trans (Same.upd nr)) (sA.free nr) tab (E3.E.rref up) hnR (fun y => ?_) fun t ht j hj => ?_
        · rw [← ann y]
          constructor
          · intro h k hk
            obtain ⟨t, ht, rfl⟩ := onto k hk
            have := (an3 y).mp (fun i hi => by
              have q := h (n - 1 - i) (by omega)
              have q := (dot_div (nz (n - 1 - i) (by omega))).mp q
              rw [back i hi] at q
              exact q) (n - 1 - t) (by omega)
            rw [back t ht] at this
            exact this
          · intro h t ht
            refine (dot_div (nz t ht)).mpr ?_
            exact (an3 y).mpr (fun j hj => h _ (hκ _ (by omega)).1) (n - 1 - t) (by omega)
        · exact div_bt ((E3.b (n - 1 - t) (by omega)).up (bK_max (by omega) (by omega) (Nat.le_refl _))) ft.fM (L_lt t ht) hj (nz t ht)
end
end RX

set_option Elab.async false
set_option maxRecDepth 100000
namespace VM
open RQ
/-- all but two of the products are 0 -/
theorem dot_two {u y : Nat → Rat} {a b : Nat} (ne : a ≠ b) : ∀ {w : Nat}, a < w → b < w → (∀ j, j < w → j ≠ a → j ≠ b → u j * y j = 0) → dot u y w = u a * y a + u b * y b
  | 0, h, _, _ => absurd h (by omega)
  | w + 1, h1, h2, z => by
    unfold dot
    by_cases ea : a = w
    · subst ea
      rw [dot_one (k := b) (by omega) fun j hj n => z j (by omega) (by omega) n]
      grind
    · by_cases eb : b = w
      · subst eb
        rw [dot_one (k := a) (by omega) fun j hj n => z j (by omega) n (by omega)]
      · rw [dot_two ne (w := w) (by omega) (by omega) fun j hj n1 n2 => z j (by omega) n1 n2, z w (by omega) (fun e => ea e.symm) (fun e => eb e.symm)]
        grind
/-- a column without a lead: what is 0 on all rows, 1 there, and else not 0 at leads of lower columns alone -/
theorem free_col {r w : Nat} {F : Nat → Nat → Rat} {L : Nat → Nat} (E : Rref r w F L) {q : Nat} (hq : q < w) (no : ∀ t, t < r → L t ≠ q) :
    ∃ y : Nat → Rat, y q = 1 ∧ (∀ j, q < j → y j = 0) ∧ (∀ t, t < r → y (L t) = - F t q) ∧ Ann r w F y := by
  have inj : ∀ s t, s < r → t < r → L s = L t → s = t := fun s t hs ht e => by
    rcases Nat.lt_trichotomy s t with h | h | h
    · have := E.up s t h ht; omega
    · exact h
    · have := E.up t s h hs; omega
  have ch : ∀ j, ∃ v : Rat, (j = q → v = 1) ∧ (∀ t, t < r → L t = j → v = - F t q) ∧ (j ≠ q → (∀ t, t < r → L t ≠ j) → v = 0) := fun j => by
    by_cases e : j = q
    · exact ⟨1, fun _ => rfl, fun t ht h => absurd (h.trans e) (no t ht), fun n => absurd e n⟩
    · by_cases h : ∃ t, t < r ∧ L t = j
      · obtain ⟨t, ht, et⟩ := h
        exact ⟨- F t q, fun z => absurd z e, fun s hs es => by rw [inj s t hs ht (by omega)], fun _ z => absurd et (z t ht)⟩
      · exact ⟨0, fun z => absurd z e, fun t ht et => absurd ⟨t, ht, et⟩ h, fun _ _ => rfl⟩
  obtain ⟨y, hy⟩ := Classical.axiomOfChoice ch
  have yL : ∀ t, t < r → y (L t) = - F t q := fun t ht => (hy (L t)).2.1 t ht rfl
  have yq : y q = 1 := (hy q).1 rfl
  refine ⟨y, yq, fun j hj => ?_, yL, fun s hs => ?_⟩
  · by_cases h : ∃ t, t < r ∧ L t = j
    · obtain ⟨t, ht, et⟩ := h
      rw [← et, yL t ht, E.zb t ht q (by omega)]
      grind
    · exact (hy j).2.2 (by omega) fun t ht et => h ⟨t, ht, et⟩
  · rw [dot_two (a := q) (b := L s) (fun e => no s hs e.symm) hq (E.lt s hs) fun j hj n1 n2 => ?_]
    · rw [yq, yL s hs, E.one s hs]
      grind
    · by_cases h : ∃ t, t < r ∧ L t = j
      · obtain ⟨t, ht, et⟩ := h
        have : s ≠ t := fun e => n2 (by rw [← et, e])
        rw [← et, E.off s t hs ht this]
        grind
      · rw [(hy j).2.2 n1 fun t ht et => h ⟨t, ht, et⟩]
        grind
/-- the rows beside one another, with what is wanted -/
def aug (r : Nat) (U : Nat → Nat → Rat) (b : Nat → Rat) (i j : Nat) : Rat := if j < r then U j i else b i
def Indep (r w : Nat) (U : Nat → Nat → Rat) : Prop := ∀ y : Nat → Rat, (∀ i, i < w → dot (fun k => U k i) y r = 0) → ∀ k, k < r → y k = 0
def Solves (r w : Nat) (U : Nat → Nat → Rat) (b x : Nat → Rat) : Prop := ∀ i, i < w → dot (fun k => U k i) x r = b i
theorem dot_aug {r i : Nat} {U : Nat → Nat → Rat} {b y : Nat → Rat} : dot (aug r U b i) y (r + 1) = dot (fun k => U k i) y r + b i * y r := by
  show dot (aug r U b i) y r + aug r U b i r * y r = _
  rw [dot_congr (u := aug r U b i) (u' := fun k => U k i) (y' := y) (fun j hj => by unfold aug; rw [if_pos hj]) fun _ _ => rfl]
  unfold aug
  rw [if_neg (Nat.lt_irrefl r)]
section
variable {c r w : Nat} {F U : Nat → Nat → Rat} {L : Nat → Nat} {b : Nat → Rat}
theorem lead_all (E : Rref c (r + 1) F L) (an : ∀ y, Ann c (r + 1) F y ↔ Ann w (r + 1) (aug r U b) y) (ind : Indep r w U) {q : Nat} (hq : q < r) : ∃ t, t < c ∧ L t = q := by
  refine Classical.byContradiction fun no => ?_
  obtain ⟨y, y1, y2, _, y4⟩ := free_col E (q := q) (by omega) fun t ht e => no ⟨t, ht, e⟩
  have := ind y (fun i hi => by
    have h := (an y).mp y4 i hi
    rw [dot_aug, y2 r hq] at h
    grind) q hq
  rw [y1] at this
  exact absurd this (by decide)
theorem lead_id (E : Rref c (r + 1) F L) (all : ∀ q, q < r → ∃ t, t < c ∧ L t = q) : ∀ t, t < r → t < c ∧ L t = t := by
  have ge : ∀ t, t < c → t ≤ L t := fun t => by
    induction t with
    | zero => intro _; exact Nat.zero_le _
    | succ t ih =>
      intro h
      have := ih (by omega)
      have := E.up t (t + 1) (by omega) h
      omega
  intro t
  induction t using Nat.strongRecOn with
  | ind t ih =>
    intro ht
    obtain ⟨s, hs, e⟩ := all t ht
    have h1 := ge s hs
    by_cases lt : s < t
    · have := (ih s lt (by omega)).2
      omega
    · have : s = t := by omega
      subst this
      exact ⟨hs, e⟩
/-- the rows of what reduced gives: 1 at their place, 0 at the others ahead of the last -/
theorem solve_row (E : Rref c (r + 1) F L) (id : ∀ t, t < r → t < c ∧ L t = t) {s : Nat} (hs : s < r) (x : Nat → Rat) : dot (F s) (fun j => if j < r then x j else -1) (r + 1) = x s - F s r := by
  have hsc := (id s hs).1
  have e1 : F s s = 1 := by
    have := E.one s hsc
    rw [(id s hs).2] at this
    exact this
  rw [dot_two (a := s) (b := r) (by omega) (by omega) (by omega) fun j hj n1 n2 => ?_]
  · simp only [if_pos hs, if_neg (Nat.lt_irrefl r), e1]
    grind
  · have hj2 : j < r := by omega
    have := E.off s j hsc (id j hj2).1 (fun e => n1 e.symm)
    rw [(id j hj2).2] at this
    rw [this]
    grind
theorem solve_yes (E : Rref c (r + 1) F L) (an : ∀ y, Ann c (r + 1) F y ↔ Ann w (r + 1) (aug r U b) y) (ind : Indep r w U) {x : Nat → Rat} (hx : Solves r w U b x) : c = r ∧ ∀ t, t < r → F t r = x t := by
  have id := lead_id E fun q hq => lead_all E an ind hq
  have A : Ann c (r + 1) F (fun j => if j < r then x j else -1) := (an _).mpr fun i hi => by
    rw [dot_aug, dot_congr (u' := fun k => U k i) (y' := x) (fun _ _ => rfl) (fun j hj => if_pos hj), hx i hi, if_neg (Nat.lt_irrefl r)]
    grind
  have ge : r ≤ c := by
    by_cases z : r = 0
    · omega
    · have := (id (r - 1) (by omega)).1
      omega
  refine ⟨?_, fun t ht => ?_⟩
  · refine Nat.le_antisymm (Nat.le_of_not_lt fun lt => ?_) ge
    have hl : L r = r := by
      have h1 := E.lt r lt
      by_cases z : r = 0
      · omega
      · have h2 := E.up (r - 1) r (by omega) lt
        rw [(id (r - 1) (by omega)).2] at h2
        omega
    have h := A r lt
    rw [dot_one (k := r) (by omega) fun j hj n => ?_] at h
    · have e1 := E.one r lt
      rw [hl] at e1
      simp only [if_neg (Nat.lt_irrefl r), e1] at h
      grind
    · rw [E.zb r lt j (by omega)]
      grind
  · have h := A t (id t ht).1
    rw [solve_row E id ht] at h
    grind
theorem solve_no (E : Rref c (r + 1) F L) (an : ∀ y, Ann c (r + 1) F y ↔ Ann w (r + 1) (aug r U b) y) (ind : Indep r w U) (no : ∀ x, ¬ Solves r w U b x) : r < c := by
  have id := lead_id E fun q hq => lead_all E an ind hq
  have ge : r ≤ c := by
    by_cases z : r = 0
    · omega
    · have := (id (r - 1) (by omega)).1
      omega
  refine Nat.lt_of_le_of_ne ge fun e => no (fun t => F t r) fun i hi => ?_
  subst e
  have A : Ann r (r + 1) F (fun j => if j < r then F j r else -1) := fun s hs => by
    rw [solve_row (x := fun j => F j r) E id hs]
    grind
  have h := (an _).mp A i hi
  rw [dot_aug, dot_congr (u' := fun k => U k i) (y' := fun t => F t r) (fun _ _ => rfl) (fun j hj => if_pos hj), if_neg (Nat.lt_irrefl r)] at h
  grind
end
end VM

set_option Elab.async false
set_option maxRecDepth 100000
namespace VM
open RQ
/-- a number over M, its top of at most T bits -/
def Ov (M : Int) (T : Nat) (q : Rat) : Prop := ∃ z : Int, (z : Rat) = q * (M : Rat) ∧ Bt T z
theorem Ov.up {M : Int} {S T : Nat} {q : Rat} (h : Ov M S q) (l : S ≤ T) : Ov M T q := let ⟨z, e, b⟩ := h; ⟨z, e, b.up l⟩
theorem bt0 (T : Nat) : Bt T 0 := Nat.two_pow_pos _
theorem Ov.den {M : Int} {T : Nat} {q : Rat} (h : Ov M T q) (m : M ≠ 0) : (q.den : Int) ∣ M ∧ Bt T q.num := by
  obtain ⟨z, e, b⟩ := h
  obtain ⟨d1, d2⟩ := den_dvd m e
  refine ⟨d1, ?_⟩
  by_cases z0 : z = 0
  · have q0 : q = 0 := by
      have m0 := i0 m
      rw [z0] at e
      have e0 : ((0 : Int) : Rat) = 0 := rfl
      rw [e0] at e
      grind
    rw [q0]
    exact bt0 T
  · exact dvd_bt d2 z0 b
theorem Ov.add {M : Int} {T : Nat} {p q : Rat} (h : Ov M T p) (k : Ov M T q) : Ov M (T + 1) (p + q) := by
  obtain ⟨z, e, b⟩ := h
  obtain ⟨y, f, c⟩ := k
  exact ⟨z + y, by rw [Rat.intCast_add, e, f]; grind, b.add c⟩
theorem Ov.mul {M N : Int} {S T : Nat} {p q : Rat} (h : Ov M S p) (k : Ov N T q) : Ov (M * N) (S + T) (p * q) := by
  obtain ⟨z, e, b⟩ := h
  obtain ⟨y, f, c⟩ := k
  exact ⟨z * y, by rw [Rat.intCast_mul, Rat.intCast_mul, e, f]; grind, b.mul c⟩
theorem Ov.lift {M N : Int} {S T : Nat} {p : Rat} (h : Ov M S p) (b : Bt T N) : Ov (M * N) (S + T) p := by
  obtain ⟨z, e, c⟩ := h
  exact ⟨z * N, by rw [Rat.intCast_mul, Rat.intCast_mul, e]; grind, c.mul b⟩
theorem Ov.zero (M : Int) (T : Nat) : Ov M T 0 := ⟨0, by rw [Rat.zero_mul]; rfl, bt0 T⟩
theorem Ov.one {M : Int} {T : Nat} (b : Bt T M) : Ov M T 1 := ⟨M, by grind, b⟩
theorem Ov.self {T : Nat} {q : Rat} (b : Bt T q.num) : Ov (q.den : Int) T q := ⟨q.num, nd q, b⟩
theorem Ov.comm {M N : Int} {T : Nat} {q : Rat} (h : Ov (M * N) T q) : Ov (N * M) T q := by rw [Int.mul_comm]; exact h
theorem den_ne (q : Rat) : (q.den : Int) ≠ 0 := by have := q.den_pos; omega
theorem Ov.vb {M : Int} {T w : Nat} {u : Nat → Rat} (m : M ≠ 0) (h : ∀ j, j < w → Ov M T (u j)) : VB (fun _ => M) T w u := ⟨fun j hj => ((h j hj).den m).1, fun j hj => ((h j hj).den m).2⟩
/-- numbers times rows, added up -/
theorem Ov.dot {M : Int} {T : Nat} {u y : Nat → Rat} : ∀ {w : Nat}, (∀ j, j < w → Ov M T (u j * y j)) → Ov M (T + w) (dot u y w)
  | 0, _ => Ov.zero M _
  | w + 1, h => by
    have i := Ov.dot (w := w) fun j hj => h j (by omega)
    exact i.add ((h w (by omega)).up (by omega))
/-! ### sums of rows -/
theorem dot_add {u y z : Nat → Rat} : ∀ {w : Nat}, dot u (fun k => y k + z k) w = dot u y w + dot u z w
  | 0 => by unfold dot; grind
  | w + 1 => by
    unfold dot
    rw [dot_add]
    grind
theorem dot_mul {u y : Nat → Rat} {c : Rat} : ∀ {w : Nat}, dot u (fun k => c * y k) w = c * dot u y w
  | 0 => by unfold dot; grind
  | w + 1 => by
    unfold dot
    rw [dot_mul]
    grind
theorem dot_comm {u y : Nat → Rat} : ∀ {w : Nat}, dot u y w = dot y u w
  | 0 => rfl
  | w + 1 => by
    unfold dot
    rw [dot_comm]
    grind
/-- a sum of sums, the other way about -/
theorem dot_swap {x y : Nat → Rat} {B : Nat → Nat → Rat} {p : Nat} : ∀ {r : Nat}, dot x (fun k => dot (B k) y p) r = dot (fun t => dot x (fun k => B k t) r) y p
  | 0 => by
    rw [show dot x (fun k => dot (B k) y p) 0 = 0 from rfl]
    exact (dot_zero fun j _ => by show dot x (fun k => B k j) 0 * y j = 0; rw [show dot x (fun k => B k j) 0 = 0 from rfl]; grind).symm
  | r + 1 => by
    show dot x (fun k => dot (B k) y p) r + x r * dot (B r) y p = _
    rw [dot_swap]
    have e : dot (fun t => dot x (fun k => B k t) (r + 1)) y p = dot (fun t => 1 * (dot x (fun k => B k t) r - (- x r) * B r t)) y p := dot_congr (fun j _ => by show dot x (fun k => B k j) r + x r * B r j = _; grind) fun _ _ => rfl
    rw [e, dot_lin]
    grind
/-- v is the sum of the basis by its numbers at the leads -/
def InSp (p w : Nat) (L : Nat → Nat) (B : Nat → Nat → Rat) (v : Nat → Rat) : Prop := ∀ i, i < w → v i = dot (fun t => v (L t)) (fun t => B t i) p
theorem insp_dot {p w n : Nat} {L : Nat → Nat} {B V : Nat → Nat → Rat} {x : Nat → Rat} (hL : ∀ t, t < p → L t < w) (h : ∀ k, k < n → InSp p w L B (V k)) : InSp p w L B (fun i => dot x (fun k => V k i) n) := fun i hi => by
  show dot x (fun k => V k i) n = dot (fun t => dot x (fun k => V k (L t)) n) (fun t => B t i) p
  rw [← dot_swap (B := fun k t => V k (L t))]
  exact dot_congr (fun _ _ => rfl) fun k hk => by
    exact h k hk i hi
theorem insp_basis {p w : Nat} {L : Nat → Nat} {B : Nat → Nat → Rat} (E : Rref p w B L) {k : Nat} (hk : k < p) : InSp p w L B (B k) := fun i hi => by
  rw [dot_one (k := k) hk fun j hj n => by rw [E.off k j hk hj (fun e => n e.symm)]; grind]
  rw [E.one k hk]
  grind
/-- rows of a triangle over the leads are independent, in any order -/
theorem indep_tri {p w : Nat} {L σ : Nat → Nat} {V : Nat → Nat → Rat} (hL : ∀ t, t < p → L t < w) (up : ∀ k j, k < p → j < p → k < j → V k (L j) = 0) (di : ∀ k, k < p → V k (L k) ≠ 0)
    (s1 : ∀ k, k < p → σ k < p) (s2 : ∀ k j, k < p → j < p → σ k = σ j → k = j) : Indep p w (fun k => V (σ k)) := by
  intro y h
  have key : ∀ d m, d + m = p → ∀ k, k < p → m ≤ σ k → y k = 0 := by
    intro d
    induction d with
    | zero => intro m e k hk l; have := s1 k hk; omega
    | succ d ih =>
      intro m e k hk l
      by_cases lt : m + 1 ≤ σ k
      · exact ih (m + 1) (by omega) k hk lt
      · have em : σ k = m := by omega
        have z := h (L m) (hL m (by omega))
        rw [dot_one (k := k) hk fun j hj n => ?_] at z
        · have := di m (by omega)
          have z : V (σ k) (L m) * y k = 0 := z
          rw [em] at z
          grind
        · show V (σ j) (L m) * y j = 0
          rcases Nat.lt_trichotomy (σ j) m with q | q | q
          · rw [up (σ j) m (s1 j hj) (by omega) q]
            grind
          · exact absurd (s2 j k hj hk (by omega)) n
          · rw [ih (m + 1) (by omega) j hj (by omega)]
            grind
  intro k hk
  exact key p 0 (by omega) k hk (Nat.zero_le _)
end VM

set_option Elab.async false
set_option maxRecDepth 100000
/-! a square table beside the unit table: its reduced form holds the inverse -/
namespace VM
def beside (n : Nat) (A : Nat → Nat → Rat) (i j : Nat) : Rat := if j < n then A i j else if j - n = i then 1 else 0
def RowFree (n : Nat) (A : Nat → Nat → Rat) : Prop := ∀ x : Nat → Rat, (∀ j, j < n → dot x (fun i => A i j) n = 0) → ∀ i, i < n → x i = 0
def ColFree (n : Nat) (A : Nat → Nat → Rat) : Prop := ∀ v : Nat → Rat, (∀ i, i < n → dot (A i) v n = 0) → ∀ j, j < n → v j = 0
theorem dot_split {u y : Nat → Rat} {n : Nat} : ∀ {m : Nat}, dot u y (n + m) = dot u y n + dot (fun j => u (n + j)) (fun j => y (n + j)) m
  | 0 => by
    show dot u y n = dot u y n + 0
    grind
  | m + 1 => by
    show dot u y (n + m) + u (n + m) * y (n + m) = dot u y n + (dot (fun j => u (n + j)) (fun j => y (n + j)) m + u (n + m) * y (n + m))
    rw [dot_split]
    grind
theorem dot_beside {n i : Nat} {A : Nat → Nat → Rat} {y : Nat → Rat} (hi : i < n) : dot (beside n A i) y (n + n) = dot (A i) y n + y (n + i) := by
  have e1 : dot (beside n A i) y n = dot (A i) y n := dot_congr (fun j hj => if_pos hj) (fun _ _ => rfl)
  have e2 : dot (fun j => beside n A i (n + j)) (fun j => y (n + j)) n = beside n A i (n + i) * y (n + i) := dot_one (u := fun j => beside n A i (n + j)) (y := fun j => y (n + j)) (k := i) hi fun j hj ne => by
    show beside n A i (n + j) * _ = _
    unfold beside
    rw [if_neg (by omega), if_neg (by omega)]
    grind
  have e3 : beside n A i (n + i) = 1 := by
    unfold beside
    rw [if_neg (by omega), if_pos (by omega)]
  rw [dot_split, e1, e2, e3]
  grind
section
variable {c n : Nat} {F A : Nat → Nat → Rat} {L : Nat → Nat}
theorem left_of (an : ∀ y, Ann c (n + n) F y ↔ Ann n (n + n) (beside n A) y) {t j : Nat} (ht : t < c) (hj : j < n) : F t j = dot (fun i => F t (n + i)) (fun i => A i j) n := by
  have h := (an fun k => if k < n then (if k = j then 1 else 0) else - A (k - n) j).mpr (fun i hi => by
    rw [dot_beside hi, dot_one (k := j) hj fun k hk ne => ?_]
    · simp only [if_pos hj, if_neg (show ¬ n + i < n by omega), show n + i - n = i by omega]
      grind
    · simp only [if_pos hk, if_neg ne]
      grind) t ht
  rw [dot_split, dot_one (k := j) hj fun k hk ne => by simp only [if_pos hk, if_neg ne]; grind] at h
  have e : dot (fun k => F t (n + k)) (fun k => (fun k => if k < n then (if k = j then (1 : Rat) else 0) else - A (k - n) j) (n + k)) n = dot (fun i => F t (n + i)) (fun i => (-1) * A i j) n := dot_congr (fun _ _ => rfl) fun k _ => by
    simp only [if_neg (show ¬ n + k < n by omega), show n + k - n = k by omega]
    grind
  rw [e, dot_mul] at h
  simp only [if_pos hj] at h
  grind
theorem lead_ids {w : Nat} (E : Rref c w F L) (all : ∀ q, q < n → ∃ t, t < c ∧ L t = q) : ∀ t, t < n → t < c ∧ L t = t := by
  have ge : ∀ t, t < c → t ≤ L t := fun t => by
    induction t with
    | zero => intro _; exact Nat.zero_le _
    | succ t ih =>
      intro h
      have := ih (by omega)
      have := E.up t (t + 1) (by omega) h
      omega
  intro t
  induction t using Nat.strongRecOn with
  | ind t ih =>
    intro ht
    obtain ⟨s, hs, e⟩ := all t ht
    have h1 := ge s hs
    by_cases lt : s < t
    · have := (ih s lt (by omega)).2
      omega
    · have : s = t := by omega
      subst this
      exact ⟨hs, e⟩
def dlt (i j : Nat) : Rat := if i = j then 1 else 0
theorem inv_yes (E : Rref c (n + n) F L) (an : ∀ y, Ann c (n + n) F y ↔ Ann n (n + n) (beside n A) y) (cf : ColFree n A) (rf : RowFree n A) :
    c = n ∧ (0 < n → F (n - 1) (n - 1) ≠ 0) ∧ (∀ i j, i < n → j < n → dot (fun k => F i (n + k)) (fun k => A k j) n = dlt i j) ∧ ∀ i j, i < n → j < n → dot (A i) (fun k => F k (n + j)) n = dlt i j := by
  have all : ∀ q, q < n → ∃ t, t < c ∧ L t = q := fun q hq => Classical.byContradiction fun no => by
    obtain ⟨y, y1, y2, _, y4⟩ := free_col E (q := q) (by omega) fun t ht e => no ⟨t, ht, e⟩
    have := cf y (fun i hi => by
      have h := (an y).mp y4 i hi
      rw [dot_beside hi, y2 (n + i) (by omega)] at h
      grind) q hq
    rw [y1] at this
    exact absurd this (by decide)
  have id := lead_ids E all
  have one : ∀ i j, i < n → j < n → F i j = dlt i j := fun i j hi hj => by
    unfold dlt
    by_cases e : i = j
    · subst e
      have := E.one i (id i hi).1
      rw [(id i hi).2] at this
      rw [if_pos rfl, this]
    · have := E.off i j (id i hi).1 (id j hj).1 e
      rw [(id j hj).2] at this
      rw [if_neg e, this]
  have ge : n ≤ c := by
    by_cases z : n = 0
    · omega
    · have := (id (n - 1) (by omega)).1
      omega
  have za : ∀ i j, i < n → j < n → dot (fun k => F i (n + k)) (fun k => A k j) n = dlt i j := fun i j hi hj => by
    rw [← left_of an (id i hi).1 hj, one i j hi hj]
  refine ⟨?_, fun z => ?_, za, fun i j hi hj => ?_⟩
  · refine Nat.le_antisymm (Nat.le_of_not_lt fun lt => ?_) ge
    have hl : n ≤ L n := by
      by_cases z : n = 0
      · omega
      · have h2 := E.up (n - 1) n (by omega) lt
        rw [(id (n - 1) (by omega)).2] at h2
        omega
    have hw := E.lt n lt
    have zr := rf (fun i => F n (n + i)) (fun j hj => by
      rw [← left_of an lt hj, E.zb n lt j (by omega)]) (L n - n) (by omega)
    have e1 := E.one n lt
    have zr : F n (n + (L n - n)) = 0 := zr
    rw [show n + (L n - n) = L n by omega, e1] at zr
    exact absurd zr (by decide)
  · rw [one _ _ (by omega) (by omega)]
    unfold dlt
    rw [if_pos rfl]
    decide
  · have e2 : ∀ j, j < n → dot (fun k => A k j) (fun k => dot (A i) (fun m => F m (n + k)) n) n = A i j := fun j hj => by
      have q1 : dot (fun k => A k j) (fun k => dot (A i) (fun m => F m (n + k)) n) n = dot (fun k => A k j) (fun k => dot (fun m => F m (n + k)) (A i) n) n := dot_congr (fun _ _ => rfl) fun k _ => dot_comm
      have q2 : dot (fun m => dot (fun k => A k j) (fun k => F m (n + k)) n) (A i) n = dot (fun m => dlt m j) (A i) n := dot_congr (fun m hm => by rw [dot_comm]; exact za m j hm hj) fun _ _ => rfl
      have q3 : dot (fun m => dlt m j) (A i) n = dlt j j * A i j := dot_one (u := fun m => dlt m j) (y := A i) (k := j) hj fun m hm ne => by
        show dlt m j * A i m = 0
        unfold dlt
        rw [if_neg ne]
        grind
      rw [q1, dot_swap (x := fun k => A k j) (B := fun k m => F m (n + k)) (y := A i) (p := n) (r := n), q2, q3]
      unfold dlt
      rw [if_pos rfl]
      grind
    have e3 : ∀ j, j < n → dot (fun k => A k j) (fun k => dlt i k) n = A i j := fun j hj => by
      rw [dot_one (u := fun k => A k j) (y := fun k => dlt i k) (k := i) hi fun m hm ne => by
        show A m j * dlt i m = 0
        unfold dlt
        rw [if_neg (fun e => ne e.symm)]
        grind]
      unfold dlt
      rw [if_pos rfl]
      grind
    have h := rf (fun k => dot (A i) (fun m => F m (n + k)) n + (-1) * dlt i k) (fun j hj => by
      rw [dot_comm, dot_add, dot_mul, e2 j hj, e3 j hj]
      grind) j hj
    have h : dot (A i) (fun m => F m (n + j)) n + (-1) * dlt i j = 0 := h
    grind
theorem inv_no (E : Rref c (n + n) F L) (an : ∀ y, Ann c (n + n) F y ↔ Ann n (n + n) (beside n A) y) {x : Nat → Rat} (hx : ∀ j, j < n → dot x (fun i => A i j) n = 0) {i0 : Nat} (h0 : i0 < n) (x0 : x i0 ≠ 0) : 0 < c ∧ F (c - 1) (n - 1) = 0 := by
  have ex : ∃ t, t < c ∧ n ≤ L t := Classical.byContradiction fun no => by
    have lt : ∀ t, t < c → L t < n := fun t ht => Nat.lt_of_not_le fun h => no ⟨t, ht, h⟩
    have z : ∀ i, i < n → x i = 0 := fun i => by
      induction i using Nat.strongRecOn with
      | ind i ih =>
        intro hi
        obtain ⟨y, y1, y2, _, y4⟩ := free_col E (q := n + i) (by omega) fun t ht e => by have := lt t ht; omega
        have e1 : dot x (fun k => y (n + k)) n = x i * y (n + i) := dot_one (k := i) hi fun k hk ne => by
          by_cases h : k < i
          · rw [ih k h hk]
            grind
          · rw [y2 (n + k) (by omega)]
            grind
        have e2 : dot x (fun k => y (n + k)) n = dot x (fun k => (-1) * dot (A k) y n) n := dot_congr (fun _ _ => rfl) fun k hk => by
          have h := (an y).mp y4 k hk
          rw [dot_beside hk] at h
          grind
        rw [e1, dot_mul, dot_swap, dot_zero fun j hj => by rw [hx j hj]; grind, y1] at e2
        grind
    exact x0 (z i0 h0)
  obtain ⟨t, ht, hl⟩ := ex
  refine ⟨by omega, E.zb (c - 1) (by omega) (n - 1) ?_⟩
  by_cases e : t = c - 1
  · subst e
    omega
  · have := E.up t (c - 1) (by omega) (by omega)
    omega
end
end VM

set_option Elab.async false
set_option maxRecDepth 100000
namespace CT
open PySem PySem.Spec PyProof.Rows L2
/-- () + u: u itself -/
theorem op_cat0 {X : Cx} : OpR X (binaryOp .Add) (fun x y H Q => ∃ a b ys, x = .ref a ∧ y = .ref b ∧ SqT X.K H a [] ∧ SqT X.K H b ys ∧ Q (.ref b) H) := by
  intro pins s σ H x y v u Q I rx ry h
  obtain ⟨a, b, ys, rfl, rfl, ha, hb, q⟩ := h
  cases rx
  cases ry
  obtain ⟨its, r1, p1, _⟩ := I.tuple ha
  obtain ⟨its2, r2, p2, _⟩ := I.tuple hb
  have e1 : its = [] := r1.nil_iff.mpr rfl
  subst e1
  obtain ⟨⟨c1, d1, t1, l1⟩, o1, k1, n1, q1⟩ := id p1
  obtain ⟨⟨c2, d2, t2, l2⟩, o2, k2, n2, q2⟩ := id p2
  have k1 : c1 = .type "tuple" := k1
  have k2 : c2 = .type "tuple" := k2
  have q1 : t1 = .seq #[] n1 := q1
  have q2 : t2 = .seq its2.toArray n2 := q2
  subst k1 k2 q1 q2
  exact concat_meets ⟨_, o1, rfl⟩ ⟨_, o2, rfl⟩ noFill_tuple_add seq_tuple_add PySem.F.slot_tuple_add PySem.F.entry_tuple_add
    (PySem.F.args_tuple_add_2 _ _) (tuple_addW0 a b #[] its2.toArray n1 n2 d1 d2 l1 l2 rfl) ⟨o1, o2, .ref b, H, I, rfl, q⟩
end CT
namespace CT
open PySem PySem.Spec PyProof.Rows L2
def rCatA (K : PySem.W.Frag) : R2 := fun x y H Q => ∃ (a b : Addr) (xs ys : List V), x = .ref a ∧ y = .ref b ∧ SqT K H a xs ∧ SqT K H b ys ∧ ys ≠ [] ∧ xs.length + ys.length ≤ sizeLine ∧ (xs = [] → Q (.ref b) H) ∧ (xs ≠ [] → ∀ p : Addr, H p = none → Q (.ref p) (upd H p (.tup (xs ++ ys))))
/-- t + u, u not empty -/
theorem op_catA {X : Cx} : OpR X (binaryOp .Add) (rCatA X.K) := by
  intro pins s σ H x y v u Q I rx ry h
  obtain ⟨a, b, xs, ys, e1, e2, ha, hb, hy, hz, q1, q2⟩ := h
  by_cases hx : xs = []
  · subst hx
    exact op_cat0 pins s σ H x y v u Q I rx ry ⟨a, b, ys, e1, e2, ha, hb, q1 rfl⟩
  · exact op_catT pins s σ H x y v u Q I rx ry ⟨a, b, xs, ys, e1, e2, ha, hb, hx, hz, fun z => absurd z hy, fun _ => q2 hx⟩
end CT

set_option Elab.async false
set_option maxRecDepth 100000
namespace RX
open PySem L2 VM
open RQ (Hg Bt)
/-! ### unit, inverse -/
abbrev sUnit : Stmt := topS 11
abbrev sInv : Stmt := topS 13
abbrev outUnit : Scope := { kind := .function, names := [(".0", .local), ("at", .cell), ("tuple", .globalImplicit), ("range", .globalImplicit), ("nothing", .cell), ("one", .cell), ("size", .cell)], isGenerator := false, isCoroutine := false }
def one01 (i j : Nat) : Int := if i = j then 1 else 0
def spUnit (C : Addr) : Sp := fun vs H Q _ => ∃ n : Int, vs = [.int n] ∧ 0 ≤ n ∧ n ≤ 1000 ∧
  ∀ (r : Addr) (S : Nat → Addr) (B : Nat → Nat → Addr) (H' : Hp), Same H H' → H r = none → TabAt C H' r n.toNat n.toNat S B one01 (fun _ _ => 1) → Q (.ref r) H'
theorem dlt_num (i j : Nat) : (dlt i j).num = one01 i j ∧ ((dlt i j).den : Int) = 1 := by
  unfold dlt one01
  split <;> exact ⟨rfl, rfl⟩
/-- the size of what reduced gives -/
def sizeR (t m n : Nat) : Nat := 2 ^ n * (2 ^ n * (t + 2 * m + 1)) + m
def spInv (C : Addr) : Sp := fun vs H Q _ => ∃ (p : Addr) (n m t : Nat) (R : Nat → Addr) (A : Nat → Nat → Addr) (U : Nat → Nat → Rat) (M : Int), vs = [.ref p] ∧ TabQ C H p n n R A U ∧ n ≤ 6 ∧ M ≠ 0 ∧ Bt m M ∧ 1 ≤ t ∧ (∀ i, i < n → ∀ j, j < n → Ov M t (U i j)) ∧ 4096 * (t + 2 * m + 1) ≤ 6600000 ∧
  ((ColFree n U ∧ RowFree n U ∧ ∀ (r : Addr) (S : Nat → Addr) (B : Nat → Nat → Addr) (Z : Nat → Nat → Rat) (H' : Hp), Same H H' → TabQ C H' r n n S B Z → (∀ i j, i < n → j < n → dot (Z i) (fun k => U k j) n = dlt i j) → (∀ i j, i < n → j < n → dot (U i) (fun k => Z k j) n = dlt i j) →
      (∀ i j, i < n → j < n → Bt 6700000 (Z i j).num ∧ Bt 6700000 ((Z i j).den : Int)) → Q (.ref r) H') ∨
    ∃ (x : Nat → Rat) (i0 : Nat), (∀ j, j < n → dot x (fun i => U i j) n = 0) ∧ i0 < n ∧ x i0 ≠ 0 ∧ ∀ H' : Hp, Same H H' → Q .non H')
theorem walk_zipT {K : PySem.W.Frag} {a b : Addr} {xs ys : List V} {n : Nat} (hn : n = min xs.length ys.length) : Walk (RZ.ItzT K a b) n (fun H => SqT K H a xs ∧ SqT K H b ys) (YPair (fun i => xs[i]?) (fun i => ys[i]?)) := by
  subst hn
  refine ⟨fun i _ hi q => ?_, fun _ q => ⟨xs, ys, q.1, q.2, by omega⟩, fun i H v H' _ q y => ?_⟩
  · have h1 : i < xs.length := by omega
    have h2 : i < ys.length := by omega
    exact ⟨xs, ys, xs[i], ys[i], q.1, q.2, by simp [h1], by simp [h2]⟩
  · obtain ⟨T, x, z, h1, h2, h3, h4, h5⟩ := y
    exact ⟨T, x, z, h1, h2, h3, h4 xs q.1, h5 ys q.2⟩
theorem refs_cat2 (n m : Nat) (f g : Nat → Addr) : refs n f ++ refs m g = refs (n + m) (fun k => if k < n then f k else g (k - n)) := by
  refine List.ext_getElem? fun i => ?_
  by_cases h : i < n
  · rw [List.getElem?_append_left (by rw [refs_len]; exact h), refs_get h, refs_get (by omega), if_pos h]
  · rw [List.getElem?_append_right (by rw [refs_len]; omega), refs_len]
    by_cases h2 : i < n + m
    · rw [refs_get (by omega), refs_get h2, if_neg h]
    · rw [List.getElem?_eq_none (by rw [refs_len]; omega), List.getElem?_eq_none (by rw [refs_len]; omega)]
theorem refs_cut (n : Nat) (a : Nat → Addr) : cutV (refs (n + n) a) (some ((n : Nat) : Int)) none = refs n (fun j => a (n + j)) := by
  unfold cutV
  rw [HT.sIx_nat, HT.sIx_none, refs_len, Nat.min_eq_left (by omega)]
  rw [List.take_of_length_le (by rw [List.length_drop, refs_len]; omega)]
  refine List.ext_getElem? fun i => ?_
  by_cases hi : i < n
  · rw [List.getElem?_drop, refs_get (by omega), refs_get hi]
  · rw [List.getElem?_eq_none (by rw [List.length_drop, refs_len]; omega), List.getElem?_eq_none (by rw [refs_len]; omega)]
section
variable {P : Program} {w : World} {K : PySem.W.Frag} {mg : Str → Option Value} {base : Heap}
theorem scUn : FnScope ["size", "one", "nothing", "at", "place"] ["size"] (defScope sUnit) := ⟨rfl, rfl, rfl, by decide +kernel, rfl, by decide +kernel, by decide +kernel⟩
theorem make1 {C : Addr} {H : Hp} {t : Int} {R : VK} {E : XK} {x dx : Addr} (nx : H x = none) (nd : H dx = none) (k : ∀ H' : Hp, Same H H' → RatAt C H' x t 1 → R .non H') :
    spInit C (.ref x :: ([.int t] ++ [.int 1])) (upd (upd H dx (.own x)) x (.ins C dx [])) R E := by
  refine ⟨x, dx, t, 1, rfl, upd_same, by decide, Nat.one_lt_two_pow (by decide), fun H' hR kp => k H' (Same.made nx nd kp) ?_⟩
  rw [(RT.one t).1, (RT.one t).2] at hR
  exact hR
theorem ok_unit {f fI C : Addr} {fd fdI : FuncData} (F : Fun K "unit" "unit" sUnit f fd) (T : TxtP mg) (R : TxtR K mg C) (M : Mk K C fI) (GI : FnOk P w K mg base CX0 1 fI fdI ["self", "top", "bottom"] (spInit C))
    (bI1 : ∃ ds, Vals [V.int 1] ds ∧ Binds K fdI ["self", "top", "bottom"] ds) : FnOk P w K mg base CX0 3 f fd ["size"] (spUnit C) := by
  refine F.ok scUn (fun vs H Q E h => ?_) (fun cdv A outer s H vs Q E hr h => ?_)
  · obtain ⟨n, rfl, _⟩ := h
    rfl
  · obtain ⟨n, rfl, h0, h1, kk⟩ := h
    obtain ⟨ds, vds, b1⟩ := bI1
    refine ⟨_, pss_cons (ps_asg (pe_tup (pa_cons (pe_make M GI hr rfl R.mgC b1 vds pass0 (pa_cons pe_int pa_nil)) (pa_cons (pe_make M GI hr rfl R.mgC b1 vds pass0 (pa_cons pe_int pa_nil)) pa_nil)))
        (pg_tup rfl (pgs_cons (pg_name (i := 1) scUn.nd rfl (.inr rfl)) (pgs_cons (pg_name (i := 2) scUn.nd rfl (.inr rfl)) pgs_nil))))
      (pss_one (ps_ret (pe_callTy call_tuple_of (by rfl) T.tup (by decide +kernel) (pa_cons (pe_lc (own := [("at", 3)]) (g := gName 3) (tt := tYes) rfl scUn.nd (pi_range1 rfl T.range (pa_cons (pv 0) pa_nil)) (blkOk_by (N := ["size", "one", "nothing", "at", "place"]) (sc := defScope sUnit) (by decide +kernel))
        (fun _ _ _ _ _ => pg_name (i := 3) scUn.nd rfl (Or.inr rfl)) (fun _ _ _ _ _ => pts_nil)
        (fun _ _ _ _ _ => pe_callTy (T := "tuple") (show CallR _ (.type "tuple") (rTupO K) from call_tupK) (by rfl) T.tup (by decide +kernel) (pa_cons (pe_lc (own := [("place", 4)]) (g := gName 4) (tt := tYes) rfl scUn.nd (pi_range1 rfl T.range (pa_cons (pv 0) pa_nil)) (blkOk_by (N := ["size", "one", "nothing", "at", "place"]) (sc := outUnit) (by decide +kernel))
          (fun _ _ _ _ _ => pg_name (i := 4) scUn.nd rfl (Or.inl rfl)) (fun _ _ _ _ _ => pts_nil)
          (fun _ _ _ _ _ => pe_ifExp (pt_cmpR op_eq (pv 3) (pv 4) (nomark _)) (pv 1) (pv 2))) pa_nil))) pa_nil)))), ?_⟩
    intro r1 dx1 n1 nd1 ne1
    refine make1 n1 nd1 fun H1 s1 e1 => ⟨rfl, ?_⟩
    intro r2 dx2 n2 nd2 ne2
    refine make1 n2 nd2 fun H2 s2 e2 => ⟨rfl, ?_⟩
    clear ne2 nd2 dx2 ne1 nd1 dx1
    refine ⟨(by show 2 ≤ sizeLine; decide), fun t0 n0 => ⟨t0, _, rfl, SqT.of upd_same, rfl, _, _, rfl, _, _, rfl, rfl, ?_⟩⟩
    have s3 : Same H2 (upd H2 t0 (.tup [.ref r1, .ref r2])) := Same.upd n0
    have e1 := (e1.same s2).same s3
    have e2 := e2.same s3
    have sA : Same H (upd H2 t0 (.tup [.ref r1, .ref r2])) := (s1.trans s2).trans s3
    generalize upd H2 t0 (.tup [.ref r1, .ref r2]) = H3 at *
    clear s3 s2 n0
    refine ⟨_, rfl, n, rfl, by omega, by omega, fun D nD => ?_⟩
    have sml : ∀ i, i < n.toNat → i < sizeLine := fun i hi => small1000 (by omega)
    refine lc_range (lo := 0) (n := n.toNat) (fun i H4 => ∃ S, Built (fun H i x => ∃ a, RowAt C H x n.toNat a (one01 i) (fun _ => 1)) H3 D i S H4) ⟨_, built0 nD⟩ ?_ ?_
    · rintro i H4 hi ⟨S, B⟩
      refine ⟨rfl, ?_⟩
      refine ⟨_, rfl, n, rfl, by omega, by omega, fun D2 nD2 => ?_⟩
      refine lc_range (lo := 0) (n := n.toNat) (fun j H5 => ∃ S2, Built (fun H j x => RatAt C H x (one01 i j) 1) H4 D2 j S2 H5) ⟨_, built0 nD2⟩ ?_ ?_
      · rintro j H5 hj ⟨S2, B2⟩
        have g1 := (e1.same B.s).same B2.s
        have g2 := (e2.same B.s).same B2.s
        refine ⟨rfl, ?_⟩
        refine ⟨_, rfl, _, rfl, rfl, _, rfl, ?_⟩
        refine ite2 (fun z => ?_) (fun z => ?_)
        · have z := of_decide_eq_true z
          injection z with z
          have e : i = j := by omega
          refine ⟨_, rfl, _, B2.hD, by rw [refs_len]; exact sml j hj, _, B2.step (x := r1) (stays_rat (n := one01 i) (d := fun _ => 1)) nD2 (Same.refl _) ?_⟩
          show RatAt C H5 r1 (one01 i j) 1
          unfold one01
          rw [if_pos e]
          exact g1
        · have z : ¬ i = j := fun e => z (decide_eq_true (by rw [e]))
          refine ⟨_, rfl, _, B2.hD, by rw [refs_len]; exact sml j hj, _, B2.step (x := r2) (stays_rat (n := one01 i) (d := fun _ => 1)) nD2 (Same.refl _) ?_⟩
          show RatAt C H5 r2 (one01 i j) 1
          unfold one01
          rw [if_neg z]
          exact g2
      · rintro H5 ⟨S2, B2⟩
        refine ⟨D2, _, rfl, .inl ⟨SqL.of B2.hD, fun r nr => ?_⟩⟩
        have s6 : Same H5 (upd H5 r (.tup (refs n.toNat S2))) := Same.upd nr
        refine ⟨_, (B2.s.trans s6) _ _ B.hD, by rw [refs_len]; exact sml i hi, _, B.step (stays_row (n := one01) (d := fun _ _ => 1)) nD (B2.s.trans s6) ⟨S2, upd_same, fun j hj => (B2.pr j hj).same s6⟩⟩
    · rintro H4 ⟨S, B⟩
      refine ⟨D, _, rfl, .inl ⟨SqL.of B.hD, fun r nr => ?_⟩⟩
      have s5 : Same H4 (upd H4 r (.tup (refs n.toNat S))) := Same.upd nr
      have ch : ∀ i, ∃ a, i < n.toNat → RowAt C H4 (S i) n.toNat a (one01 i) (fun _ => 1) := fun i => by
        by_cases hi : i < n.toNat
        · obtain ⟨a, ha⟩ := B.pr i hi
          exact ⟨a, fun _ => ha⟩
        · exact ⟨fun _ => 0, fun h => absurd h hi⟩
      obtain ⟨B2, hB2⟩ := Classical.axiomOfChoice ch
      exact kk r S B2 _ ((sA.trans B.s).trans s5) (sA.free (B.s.free nr)) ⟨upd_same, fun i hi => (hB2 i hi).same s5⟩
theorem scIv : FnScope ["table", "size", "found", "row", "beside"] ["table"] (defScope sInv) := ⟨rfl, rfl, rfl, by decide +kernel, rfl, by decide +kernel, by decide +kernel⟩
theorem ok_inv {f fR fU fB C : Addr} {fd dR dU dB : FuncData} (F : Fun K "inverse" "inverse" sInv f fd) (T : TxtP mg) (ml : mg "len" = none) (cR : CalN P w K mg base "reduced" 38 ["rows"] (spReduced C) fR dR) (cU : CalN P w K mg base "unit" 3 ["size"] (spUnit C) fU dU)
    (aB : PySem.W.findIn K (.ref C) "__bool__" = some (some (.ref fB))) (iB : PySem.W.isFn K (.ref fB) = true) (GB : FnOk P w K mg base CX0 1 fB dB ["self"] (spBoolQ C)) (bB : Binds K dB ["self"] []) : FnOk P w K mg base CX0 39 f fd ["table"] (spInv C) := by
  refine F.ok scIv (fun vs H Q E h => ?_) (fun cdv A outer s H vs Q E hr h => ?_)
  · obtain ⟨p, n, m, t, R, A, U, M, rfl, _⟩ := h
    rfl
  · obtain ⟨p, n, m, t, R, A', U, M, rfl, hp, n6, M0, Mb, t1, hU, he, kk⟩ := h
    have hr1 : Room 1 _ := hr.mono (by decide)
    have hr3 : Room 3 _ := hr.mono (by decide)
    refine ⟨_, pss_cons (ps_set (i := 1) scIv.nd rfl (.inr rfl) (pe_callB call_len_seq (by rfl) ml PySem.boot_len (pa_cons (pv 0) pa_nil)))
      (pss_cons (ps_set (i := 2) scIv.nd rfl (.inl rfl) (pe_call cR.G hr rfl cR.m cR.kp cR.b .nil pass0 (pa_cons (pe_callTy call_tuple_of (by rfl) T.tup (by decide +kernel) (pa_cons (pe_lc (own := [("row", 3), ("beside", 4)]) (g := gTup K 2 (gCons (gName 3) (gCons (gName 4) gNil))) (tt := tYes) rfl scIv.nd
          (RZ.pi_zipA (by rfl) T.zip (pa_cons (pv 0) (pa_cons (pe_call cU.G hr3 rfl cU.m cU.kp cU.b .nil pass0 (pa_cons (pv 1) pa_nil)) pa_nil))) (blkOk_by (N := ["table", "size", "found", "row", "beside"]) (sc := defScope sInv) (by decide +kernel))
          (fun _ _ _ _ _ => pg_tup rfl (pgs_cons (pg_name (i := 3) scIv.nd rfl (.inl rfl)) (pgs_cons (pg_name (i := 4) scIv.nd rfl (.inl rfl)) pgs_nil))) (fun _ _ _ _ _ => pts_nil)
          (fun _ _ _ _ _ => pe_op (show OpR _ _ (CT.rCatA K) from CT.op_catA) (pv 3) (pv 4))) pa_nil)) pa_nil)))
      (C8.pss_cut (ps_if (PW.pt (pw_and (pt_cmpR op_gt (pv 1) pe_int (nomark _)) (pw_and1 (pt_not (pt_own aB iB GB hr1 bB pass0 (pe_ix ix_tup (pe_ix ix_tup (pv 2) (pe_un un_neg pe_int) (fun _ _ => rfl)) (pe_op op_sub (pv 1) pe_int) (fun _ _ => rfl)) (by intro _; rfl)))))) (pss_one (ps_ret pe_non)) pss_nil)
      (pss_one (ps_ret (pe_callTy call_tuple_of (by rfl) T.tup (by decide +kernel) (pa_cons (pe_lc (own := [("row", 3)]) (g := gName 3) (tt := tYes) rfl scIv.nd (pi_tup (pv 2)) (blkOk_by (N := ["table", "size", "found", "row", "beside"]) (sc := defScope sInv) (by decide +kernel))
          (fun _ _ _ _ _ => pg_name (i := 3) scIv.nd rfl (.inl rfl)) (fun _ _ _ _ _ => pts_nil) (fun _ _ _ _ _ => pe_slice (show SlR _ (rSlT K) from sl_tup) (pv 3) (po_some (pv 1)) po_none)) pa_nil)))))), ?_⟩
    refine ⟨_, rfl, p, _, rfl, .inr (SqT.of hp.hp), ?_⟩
    rw [refs_len]
    refine ⟨_, rfl, _, rfl, (n : Int), rfl, by omega, by omega, fun u Su Bu H1 s1 nu hu => ?_⟩
    have hu : TabAt C H1 u n n Su Bu one01 (fun _ _ => 1) := hu
    have hp1 := hp.same s1
    refine ⟨p, u, refs n R, refs n Su, rfl, .inr ⟨SqT.of hp1.hp, SqT.of hu.hp, fun D nD => ?_⟩⟩
    refine lc_it (walk_zipT (K := K) (a := p) (b := u) (xs := refs n R) (ys := refs n Su) (n := n) (by rw [refs_len, refs_len]; omega)) (fun i H2 => ∃ S, Built (fun H i x => ∃ a, RowQ C H x (n + n) a (beside n U i)) H1 D i S H2) ⟨_, built0 nD⟩ (fun i H2 _ ⟨S, B⟩ => ⟨SqT.of (B.s _ _ hp1.hp), SqT.of (B.s _ _ hu.hp)⟩) ?_ ?_
    · rintro i x H2 H3 hi ⟨S, B⟩ ⟨Tx, x1, y1, rfl, nTx, rfl, e1, e2⟩
      have e1 : (refs n R)[i]? = some x1 := e1
      have e2 : (refs n Su)[i]? = some y1 := e2
      rw [refs_get hi] at e1 e2
      cases e1
      cases e2
      have s3 : Same H2 (upd H2 Tx (.tup [.ref (R i), .ref (Su i)])) := Same.upd nTx
      have s13 := B.s.trans s3
      have row := (hp1.r i hi).same s13
      have row2 := (hu.r i hi).same s13
      refine ⟨Tx, _, rfl, SqT.of upd_same, rfl, _, _, rfl, _, _, rfl, rfl, rfl, ?_⟩
      generalize upd H2 Tx (.tup [.ref (R i), .ref (Su i)]) = H4 at *
      refine ⟨_, rfl, _, rfl, R i, Su i, _, _, rfl, rfl, SqT.of row.hp, SqT.of row2.hp, (fun z => ?_), by rw [refs_len, refs_len]; show n + n ≤ sizeLine; exact Nat.le_of_lt (small1000 (by omega)), fun z => ?_, fun z p' np' => ?_⟩
      · have := congrArg List.length z
        rw [refs_len] at this
        have : n = 0 := this
        omega
      · have := congrArg List.length z
        rw [refs_len] at this
        have : n = 0 := this
        omega
      · have s7 : Same H4 (upd H4 p' (.tup (refs n (A' i) ++ refs n (Bu i)))) := Same.upd np'
        refine ⟨_, (s3.trans s7) _ _ B.hD, by rw [refs_len]; exact small1000 (by omega), _, B.step (x := p') (stays_row (n := fun i j => (beside n U i j).num) (d := fun i j => ((beside n U i j).den : Int))) nD (s3.trans s7) ⟨_, by rw [upd_same, refs_cat2], fun j hj => ?_⟩⟩
        by_cases e : j < n
        · show RatAt C _ (if j < n then A' i j else Bu i (j - n)) (beside n U i j).num _
          unfold beside
          rw [if_pos e, if_pos e]
          exact (row.r j e).same s7
        · show RatAt C _ (if j < n then A' i j else Bu i (j - n)) (beside n U i j).num _
          have q := (row2.r (j - n) (by omega)).same s7
          unfold beside
          rw [if_neg e, if_neg e]
          obtain ⟨q1, q2⟩ := dlt_num i (j - n)
          have ed : (if j - n = i then (1 : Rat) else 0) = dlt i (j - n) := by
            unfold dlt
            by_cases h : j - n = i
            · rw [if_pos h, if_pos h.symm]
            · rw [if_neg h, if_neg (fun z => h z.symm)]
          rw [ed, q1, q2]
          exact q
    · rintro H2 ⟨S, B⟩
      refine ⟨D, _, rfl, .inl ⟨SqL.of B.hD, fun T1 n1 => ?_⟩⟩
      obtain ⟨A2, tab⟩ := B.tab (n := fun i j => (beside n U i j).num) (d := fun i j => ((beside n U i j).den : Int)) n1
      have s2 : Same H1 (upd H2 T1 (.tup (refs n S))) := B.s.trans (Same.upd n1)
      generalize upd H2 T1 (.tup (refs n S)) = H3 at *
      have dv : ∀ q, Ov M t q → ((q.den : Int) ∣ ((M.natAbs : Nat) : Int)) ∧ Bt t q.num := fun q h => ⟨Int.dvd_natAbs.mpr (h.den M0).1, (h.den M0).2⟩
      have hb : ∀ i, i < n → ∀ j, j < n + n → ((beside n U i j).den : Int) ∣ ((M.natAbs : Nat) : Int) ∧ Bt t (beside n U i j).num := fun i hi j hj => by
        unfold beside
        by_cases e : j < n
        · rw [if_pos e]
          exact dv _ (hU i hi j e)
        · rw [if_neg e]
          have one2 : (1 : Nat) < 2 ^ t := Nat.one_lt_two_pow (by omega)
          split
          · exact ⟨Int.one_dvd _, one2⟩
          · exact ⟨Int.one_dvd _, Nat.lt_trans Nat.zero_lt_one one2⟩
      have ft : Fits n (n + n) m t 6 (beside n U) (fun _ => ((M.natAbs : Nat) : Int)) := ⟨by omega, by omega, ⟨fun j _ => by omega, fun j _ => by show ((M.natAbs : Nat) : Int).natAbs < 2 ^ m; rw [Int.natAbs_natCast]; exact Mb⟩, fun i hi => ⟨fun j hj => (hb i hi j hj).1, fun j hj => (hb i hi j hj).2⟩, by omega, .inl n6, by
        show 64 * (64 * (t + 2 * m + 1)) ≤ 25000000
        omega, by decide⟩
      refine ⟨T1, n, n + n, m, t, 6, S, A2, beside n U, fun _ => ((M.natAbs : Nat) : Int), rfl, tab, ft, fun fo c L S' B' F' H4 s4 n4 hf E hc an bnd => ?_⟩
      have s14 := (s1.trans s2).trans s4
      rcases kk with ⟨cf, rf, kk⟩ | ⟨x, i0, hx, h0, x0, kk⟩
      · obtain ⟨rfl, nz, za, az⟩ := inv_yes E an cf rf
        refine ⟨fun σ' H' => σ' = [some (.ref p), some (.int (c : Nat)), some (.ref fo), none, none] ∧ H4 = H', ?_, ?_⟩
        · refine ⟨_, rfl, _, _, rfl, rfl, _, rfl, ?_⟩
          by_cases c0 : 0 < c
          · refine iteT' (decide_eq_true (by omega)) ?_
            obtain ⟨k, rfl⟩ : ∃ k, c = k + 1 := ⟨c - 1, by omega⟩
            have row := hf.r k (by omega)
            obtain ⟨dx, hx⟩ := id (row.r k (by omega))
            refine ⟨_, rfl, 1, rfl, fo, _, _, _, rfl, rfl, SqT.of hf.hp, refs_last k S', _, rfl, _, _, rfl, rfl, S' k, _, _, _, rfl, rfl, SqT.of row.hp, at_of (by omega) (refs_get (by omega)), B' k k, dx, _, rfl, hx, B' k k, F' k k, rfl, row.r k (by omega), _, rfl, ?_⟩
            rw [show decide (F' k k ≠ 0) = true from decide_eq_true (nz c0)]
            exact iteF ⟨rfl, rfl⟩
          · exact iteF' (decide_eq_false (by omega)) (iteF ⟨rfl, rfl⟩)
        · rintro σ' H' ⟨rfl, rfl⟩
          refine ⟨_, rfl, fo, rfl, ⟨_, SqT.of hf.hp⟩, fun D2 nD2 => ?_⟩
          refine lc_tup (K := K) (a := fo) (xs := refs c S') (fun i H5 => ∃ S, Built (fun H i x => ∃ a, RowQ C H x c a (fun j => F' i (c + j))) H4 D2 i S H5) ⟨_, built0 nD2⟩ (fun k H5 _ ⟨S, B5⟩ => SqT.of (B5.s _ _ hf.hp)) ?_ ?_
          · rintro i y H5 hy ⟨S5, B5⟩
            obtain ⟨hi, rfl⟩ := refs_lt hy
            have row := (hf.r i hi).same B5.s
            refine ⟨rfl, ?_⟩
            refine ⟨_, rfl, _, rfl, _, rfl, S' i, _, rfl, SqT.of row.hp, (fun z => ?_), fun p' np' => ?_⟩
            · have z := z.1
              rw [HT.sIx_nat, refs_len, Nat.min_eq_left (by omega)] at z
              omega
            · rw [refs_cut]
              have s7 : Same H5 (upd H5 p' (.tup (refs c fun j => B' i (c + j)))) := Same.upd np'
              exact ⟨_, s7 _ _ B5.hD, by rw [refs_len]; exact small1000 (by omega), _, B5.step (x := p') (stays_row (n := fun i j => (F' i (c + j)).num) (d := fun i j => ((F' i (c + j)).den : Int))) nD2 s7 ⟨_, upd_same, fun j hj => (row.r (c + j) (by omega)).same s7⟩⟩
          · rintro H5 ⟨S5, B5⟩
            have B5 : Built _ H4 D2 (refs c S').length S5 H5 := B5
            rw [refs_len] at B5
            refine ⟨D2, _, rfl, .inl ⟨SqL.of B5.hD, fun T2 n2 => ?_⟩⟩
            obtain ⟨A3, tab3⟩ := B5.tab (n := fun i j => (F' i (c + j)).num) (d := fun i j => ((F' i (c + j)).den : Int)) n2
            exact kk T2 S5 A3 (fun i j => F' i (c + j)) _ ((s14.trans B5.s).trans (Same.upd n2)) tab3 za az fun i j hi hj => by
              obtain ⟨q1, q2⟩ := bnd i (by omega) (c + j) (by omega)
              have : 2 ^ 6 * (2 ^ 6 * (t + 2 * m + 1)) + m ≤ 6700000 := by
                show 64 * (64 * (t + 2 * m + 1)) + m ≤ 6700000
                omega
              exact ⟨q1.up this, q2.up this⟩
      · obtain ⟨c0, z⟩ := inv_no E an hx h0 x0
        refine ⟨fun _ _ => False, ?_, fun _ _ z => z.elim⟩
        obtain ⟨k, rfl⟩ : ∃ k, c = k + 1 := ⟨c - 1, by omega⟩
        have row := hf.r k (by omega)
        obtain ⟨dx, hx⟩ := id (row.r (n - 1) (by omega))
        refine ⟨_, rfl, _, _, rfl, rfl, _, rfl, ?_⟩
        refine iteT' (decide_eq_true (by omega)) ?_
        refine ⟨_, rfl, 1, rfl, fo, _, _, _, rfl, rfl, SqT.of hf.hp, refs_last k S', _, rfl, _, _, rfl, rfl, S' k, _, _, _, rfl, rfl, SqT.of row.hp, at_of (by omega) (refs_get (by omega)), B' k (n - 1), dx, _, rfl, hx, B' k (n - 1), F' k (n - 1), rfl, row.r (n - 1) (by omega), _, rfl, ?_⟩
        rw [show decide (F' k (n - 1) ≠ 0) = false from decide_eq_false fun y => y z]
        exact iteT (kk H4 s14)
end
end RX

set_option Elab.async false
set_option maxRecDepth 100000
namespace RX
open PySem L2 VM
open RQ (Hg Bt)
/-! ### numbers of the law -/
abbrev sNumber : Stmt := topS 30
abbrev sOther : Stmt := topS 32
abbrev sRats : Stmt := topS 28
abbrev sSameRow : Stmt := topS 26
def spSameRow (C : Addr) : Sp := fun vs H Q _ => ∃ (p q : Addr) (k : Nat) (S a : Nat → Addr) (n d : Nat → Int), vs = [.ref p, .ref q] ∧ RowAt C H p k S n d ∧ LineAt H q k a n d ∧ k ≤ 1000 ∧ Q (.bl true) H

abbrev PrQ (H : Hp) (p : Addr) (q : Rat) : Prop := PairAt H p q.num (q.den : Int)
abbrev LineQ (H : Hp) (p : Addr) (k : Nat) (a : Nat → Addr) (u : Nat → Rat) : Prop := LineAt H p k a (fun j => (u j).num) (fun j => ((u j).den : Int))
abbrev LinesQ (H : Hp) (p : Addr) (h w : Nat) (R : Nat → Addr) (A : Nat → Nat → Addr) (U : Nat → Nat → Rat) : Prop := LinesAt H p h w R A (fun i j => (U i j).num) (fun i j => ((U i j).den : Int))
theorem bt1 : Bt 4 1 := show (1 : Int).natAbs < 2 ^ 4 by decide
/-- a drawn number -/
def NumOk (wd : Int) (q : Rat) : Prop := Bt (17 * wd.toNat + 4) q.num ∧ Bt (17 * wd.toNat + 4) (q.den : Int)
theorem pr_of {n d : Int} (hd : 0 < d) (c : Nat.Coprime n.natAbs d.natAbs) : ∃ q : Rat, q.num = n ∧ (q.den : Int) = d :=
  ⟨⟨n, d.natAbs, by omega, c⟩, rfl, by show ((d.natAbs : Nat) : Int) = d; omega⟩
theorem FnOk.weak {P : Program} {w : World} {K : PySem.W.Frag} {mg : Str → Option Value} {base : Heap} {CX : CXT} {k : Nat} {f : Addr} {fd : FuncData} {ps : List Str} {sp sp' : Sp} (F : FnOk P w K mg base CX k f fd ps sp) (h : ∀ vs H Q E, sp' vs H Q E → sp vs H Q E) : FnOk P w K mg base CX k f fd ps sp' :=
  ⟨fun vs H Q E z => F.len vs H Q E (h vs H Q E z), fun A outer s H args us vs Q E a1 a2 a3 a4 z => F.run A outer s H args us vs Q E a1 a2 a3 a4 (h vs H Q E z)⟩
def spNumQ : Sp := fun vs H Q _ => ∃ (a cl : Addr) (wd : Int), vs = [.ref a, .int wd] ∧ FeedAt H a cl ∧ 0 ≤ wd ∧ wd ≤ 4 ∧ ∀ (r : Addr) (q : Rat) (H' : Hp), FeedAt H' a cl → But a H H' → H r = none → PrQ H' r q → NumOk wd q → Q (.ref r) H'
def spOther : Sp := fun vs H Q _ => ∃ (a cl : Addr) (wd : Int), vs = [.ref a, .int wd] ∧ FeedAt H a cl ∧ 0 ≤ wd ∧ wd ≤ 4 ∧ ∀ (r : Addr) (q : Rat) (H' : Hp), FeedAt H' a cl → But a H H' → H r = none → PrQ H' r q → NumOk wd q → q ≠ 0 → Q (.ref r) H'
def spSumQ : Sp := fun vs H Q _ => ∃ (p q : Addr) (u v : Rat), vs = [.ref p, .ref q] ∧ PrQ H p u ∧ PrQ H q v ∧ HgQ u ∧ HgQ v ∧ ∀ (r : Addr) (H' : Hp), Same H H' → H r = none → PrQ H' r (u + v) → Q (.ref r) H'
def spByQ : Sp := fun vs H Q _ => ∃ (p q : Addr) (u v : Rat), vs = [.ref p, .ref q] ∧ PrQ H p u ∧ PrQ H q v ∧ HgQ u ∧ HgQ v ∧ ∀ (r : Addr) (H' : Hp), Same H H' → H r = none → PrQ H' r (u * v) → Q (.ref r) H'
theorem sum_q : ∀ vs H Q E, spSumQ vs H Q E → spSumB vs H Q E := by
  rintro vs H Q E ⟨p, q, u, v, rfl, hp, hq, gu, gv, k⟩
  refine ⟨p, q, _, _, _, _, rfl, hp, hq, den_ne u, den_ne v, gu.1, gu.2, gv.1, gv.2, fun r H' s nr hR => k r H' s nr ?_⟩
  have e : ((u.num * (v.den : Int) + v.num * (u.den : Int) : Int) : Rat) = (u + v) * (((u.den : Int) * (v.den : Int) : Int) : Rat) := by
    rw [Rat.intCast_add, Rat.intCast_mul, Rat.intCast_mul, Rat.intCast_mul, RQ.nd u, RQ.nd v]
    grind
  obtain ⟨q1, q2⟩ := RQ.low (Int.mul_ne_zero (den_ne u) (den_ne v)) e
  show PairAt H' r _ _
  rw [← q1, ← q2]
  exact hR
theorem by_q : ∀ vs H Q E, spByQ vs H Q E → spByB vs H Q E := by
  rintro vs H Q E ⟨p, q, u, v, rfl, hp, hq, gu, gv, k⟩
  refine ⟨p, q, _, _, _, _, rfl, hp, hq, den_ne u, den_ne v, gu.1, gu.2, gv.1, gv.2, fun r H' s nr hR => k r H' s nr ?_⟩
  have e : ((u.num * v.num : Int) : Rat) = (u * v) * (((u.den : Int) * (v.den : Int) : Int) : Rat) := by
    rw [Rat.intCast_mul, Rat.intCast_mul, RQ.nd u, RQ.nd v]
    grind
  obtain ⟨q1, q2⟩ := RQ.low (Int.mul_ne_zero (den_ne u) (den_ne v)) e
  show PairAt H' r _ _
  rw [← q1, ← q2]
  exact hR
def spRatsQ (C : Addr) : Sp := fun vs H Q _ => ∃ (q : Addr) (k : Nat) (a : Nat → Addr) (u : Nat → Rat), vs = [.ref q] ∧ LineQ H q k a u ∧ k ≤ 1000 ∧ ∀ (r : Addr) (S : Nat → Addr) (H' : Hp), Same H H' → H r = none → RowQ C H' r k S u → Q (.ref r) H'
section
variable {P : Program} {w : World} {K : PySem.W.Frag} {mg : Str → Option Value} {base : Heap}
theorem scNu : FnScope ["feed", "wide", "kind", "above"] ["feed", "wide"] (defScope sNumber) := ⟨rfl, rfl, rfl, by decide +kernel, rfl, by decide +kernel, by decide +kernel⟩
theorem scOt : FnScope ["feed", "wide", "found"] ["feed", "wide"] (defScope sOther) := ⟨rfl, rfl, rfl, by decide +kernel, rfl, by decide +kernel, by decide +kernel⟩
theorem scRs : FnScope ["line", "one"] ["line"] (defScope sRats) := ⟨rfl, rfl, rfl, by decide +kernel, rfl, by decide +kernel, by decide +kernel⟩
theorem scSR : FnScope ["actual", "due", "k"] ["actual", "due"] (defScope sSameRow) := ⟨rfl, rfl, rfl, by decide +kernel, rfl, by decide +kernel, by decide +kernel⟩
theorem ok_sameRow {f fE C : Addr} {fd dE : FuncData} (F : Fun K "_law_same_row" "_law_same_row" sSameRow f fd) (T : TxtL mg) (TP : TxtP mg) (cE : CalN P w K mg base "_law_same" 2 ["actual", "due"] (spSame C) fE dE) :
    FnOk P w K mg base CX0 3 f fd ["actual", "due"] (spSameRow C) := by
  refine F.ok scSR (fun vs H Q E h => ?_) (fun cdv A outer s H vs Q E hr h => ?_)
  · obtain ⟨p, q, k, S, a, n, d, rfl, _⟩ := h
    rfl
  · obtain ⟨p, q, k, S, a, n, d, rfl, hp, hq, hk, kk⟩ := h
    refine ⟨_, pss_cons (ps_if (PW.pt (pw_or (pt_not (pt_val (pe_callB RZ.call_isTy (by rfl) T.isi (by decide +kernel) (pa_cons (pv 0) (pa_cons (pe_bltn (v := .ty "tuple") (by rfl) TP.tup (by decide +kernel) rfl) pa_nil)))))
        (pw_or1 (pt_cmpR op_ne (pe_callB call_len_seq (by rfl) T.len PySem.boot_len (pa_cons (pv 0) pa_nil)) (pe_callB call_len_seq (by rfl) T.len PySem.boot_len (pa_cons (pv 1) pa_nil)) (nomark _))))) (pss_one ps_never) pss_nil)
      (pss_cons (ps_for PassesOwn.never rfl (pi_range1 rfl T.range (pa_cons (pe_callB call_len_seq (by rfl) T.len PySem.boot_len (pa_cons (pv 1) pa_nil)) pa_nil)) (pg_name (i := 2) scSR.nd rfl (.inl rfl))
        (pss_one (ps_if (pt_not (pt_val (pe_call cE.G hr rfl cE.m cE.kp cE.b .nil pass0 (pa_cons (pe_ix ix_tup (pv 0) (pv 2) (fun _ _ => rfl)) (pa_cons (pe_ix ix_list (pv 1) (pv 2) (fun _ _ => rfl)) pa_nil))))) (pss_one ps_never) pss_nil)))
      (pss_one (ps_ret pe_bl))), ?_⟩
    refine ⟨_, rfl, .ref p, "tuple", rfl, .tup hp.hp, true, rfl, ?_⟩
    refine iteF ?_
    refine ⟨_, rfl, p, _, rfl, .inr (SqT.of hp.hp), _, rfl, q, _, rfl, .inl (SqL.of hq.hq), rfl, _, rfl, ?_⟩
    refine iteNS (by rw [refs_len, refs_len]) ?_
    refine ⟨_, rfl, q, _, rfl, .inl (SqL.of hq.hq), _, rfl, by rw [refs_len]; omega, by rw [refs_len]; omega, for_range (n := (refs k a).length) (fun i σ H' => ∃ o, σ = [some (.ref p), some (.ref q), o] ∧ H' = H) ⟨_, rfl, rfl⟩ ?_ ?_⟩
    · rintro i σ H' hi ⟨o, rfl, rfl⟩
      rw [refs_len] at hi
      refine ⟨_, rfl, _, rfl, p, _, _, _, rfl, rfl, SqT.of hp.hp, at_of (Int.zero_add _) (refs_get hi), _, rfl, _, rfl, q, _, _, _, rfl, rfl, SqL.of hq.hq, at_of (Int.zero_add _) (refs_get hi), _, _, _, _, rfl, hp.r i hi, hq.p i hi, true, rfl, ?_⟩
      exact iteF ⟨_, rfl, rfl⟩
    · rintro σ H' ⟨o, rfl, rfl⟩
      exact kk
theorem ok_number {f fD fG fP : Addr} {fd dD dG dP : FuncData} (F : Fun K "_law_number" "_law_number" sNumber f fd) (T : TxtL mg) (cD : CalN P w K mg base "_law_draw" 1 ["feed", "limit"] spDraw fD dD) (cG : CalN P w K mg base "_law_great" 2 ["feed", "parts"] spGreat fG dG) (cP : CalN P w K mg base "_law_pair" 1 ["above", "below"] spPair fP dP) :
    FnOk P w K mg base CX0 3 f fd ["feed", "wide"] spNumQ := by
  refine F.ok scNu (fun vs H Q E h => ?_) (fun cdv A outer s H vs Q E hr h => ?_)
  · obtain ⟨a, cl, wd, rfl, _⟩ := h
    rfl
  · obtain ⟨a, cl, wd, rfl, hF, h0, h1, kk⟩ := h
    have hr1 : Room 1 _ := hr.mono (by decide)
    refine ⟨_, pss_cons (ps_set (i := 2) scNu.nd rfl (.inl rfl) (pe_call cD.G hr1 rfl cD.m cD.kp cD.b .nil pass0 (pa_cons (pv 0) (pa_cons pe_int pa_nil))))
      (pss_cons (ps_if (pt_cmpR op_lt (pv 2) pe_int (nomark _)) (pss_one (ps_ret (pe_tup (pa_cons pe_int (pa_cons pe_int pa_nil))))) pss_nil)
      (pss_cons (ps_if (pt_cmpR op_lt (pv 2) pe_int (nomark _)) (pss_one (ps_ret (pe_tup (pa_cons (pe_op op_sub (pe_call cD.G hr1 rfl cD.m cD.kp cD.b .nil pass0 (pa_cons (pv 0) (pa_cons pe_int pa_nil))) pe_int) (pa_cons pe_int pa_nil))))) pss_nil)
      (C8.pss_cut (ps_if (PW.pt (pw_and (pt_cmpR op_eq (pv 2) pe_int (nomark _)) (pw_and1 (pt_cmpR op_gt (pv 1) pe_int (nomark _)))))
        (pss_cons (ps_set (i := 3) scNu.nd rfl (.inl rfl) (pe_op op_mul (pe_call cG.G hr rfl cG.m cG.kp cG.b .nil pass0 (pa_cons (pv 0) (pa_cons (pv 1) pa_nil))) (pe_op op_sub pe_int (pe_op op_mul pe_int (pe_call cD.G hr1 rfl cD.m cD.kp cD.b .nil pass0 (pa_cons (pv 0) (pa_cons pe_int pa_nil)))))))
        (pss_one (ps_ret (pe_call cP.G hr1 rfl cP.m cP.kp cP.b .nil pass0 (pa_cons (pv 3) (pa_cons (pe_callB (call_max2 rfl) (by rfl) T.max (by decide +kernel) (pa_cons pe_int (pa_cons (pe_call cG.G hr rfl cG.m cG.kp cG.b .nil pass0 (pa_cons (pv 0) (pa_cons (pv 1) pa_nil))) pa_nil))) pa_nil)))))) pss_nil)
      (pss_one (ps_ret (pe_call cP.G hr1 rfl cP.m cP.kp cP.b .nil pass0 (pa_cons (pe_op op_sub (pe_call cD.G hr1 rfl cD.m cD.kp cD.b .nil pass0 (pa_cons (pv 0) (pa_cons pe_int pa_nil))) pe_int)
        (pa_cons (pe_op op_add pe_int (pe_call cD.G hr1 rfl cD.m cD.kp cD.b .nil pass0 (pa_cons (pv 0) (pa_cons pe_int pa_nil)))) pa_nil)))))))), ?_⟩
    have wb : ∀ {x : Int}, Bt 4 x → Bt (17 * wd.toNat + 4) x := fun h => h.up (by omega)
    have give : ∀ (r : Addr) (n d : Int) (H' : Hp), FeedAt H' a cl → But a H H' → H r = none → PairAt H' r n d → 0 < d → Nat.Coprime n.natAbs d.natAbs → Bt (17 * wd.toNat + 4) n → Bt (17 * wd.toNat + 4) d → Q (.ref r) H' := fun r n d H' f b nr hR hd c bn bd => by
      obtain ⟨q, rfl, rfl⟩ := pr_of hd c
      exact kk r q H' f b nr hR ⟨bn, bd⟩
    have pairs : ∀ (r : Addr) (n d : Int) (H' : Hp), FeedAt H' a cl → But a H H' → H r = none → PairAt H' r (RT.top n d) (RT.bot n d) → 0 < d → Bt (17 * wd.toNat + 4) n → Bt (17 * wd.toNat + 4) d → Q (.ref r) H' := fun r n d H' f b nr hR hd bn bd => by
      have d0 : d ≠ 0 := by omega
      exact give r _ _ H' f b nr hR (RT.bot_pos d0) (RT.cop d0) (bn.le (RT.top_le d0)) (bd.le (RT.bot_le d0))
    refine ⟨_, rfl, a, cl, 8, rfl, hF, by decide, by decide, fun kd H1 _ _ f1 b1 => ?_⟩
    refine ⟨_, rfl, _, _, rfl, rfl, _, rfl, ?_⟩
    refine ite2 (fun _ => ?_) (fun _ => ?_)
    · refine ⟨(by show 2 ≤ sizeLine; decide), fun r nr => ?_⟩
      exact give r 0 1 _ (f1.same (Same.upd nr)) (b1.trans (Same.but (Same.upd nr))) (b1.free nr f1) upd_same (by decide) (Nat.coprime_one_right _) (bt0 _) (wb bt1)
    refine ⟨_, rfl, _, _, rfl, rfl, _, rfl, ?_⟩
    refine ite2 (fun _ => ?_) (fun _ => ?_)
    · refine ⟨_, rfl, a, cl, 9, rfl, f1, by decide, by decide, fun x H2 x0 x1 f2 b2 => ⟨_, _, rfl, rfl, (by show 2 ≤ sizeLine; decide), fun r nr => ?_⟩⟩
      have b2 := b1.trans b2
      exact give r (x - 4) 1 _ (f2.same (Same.upd nr)) (b2.trans (Same.but (Same.upd nr))) (b2.free nr f2) upd_same (by decide) (Nat.coprime_one_right _) (wb (show (x - 4).natAbs < 2 ^ 4 by omega)) (wb bt1)
    refine ⟨fun σ' H' => ∃ o, σ' = [some (.ref a), some (.int wd), some (.int kd), o] ∧ FeedAt H' a cl ∧ But a H H', ?_, ?_⟩
    · refine ⟨_, rfl, rfl, _, rfl, ?_⟩
      refine ite2 (fun _ => ?_) (fun _ => ⟨_, rfl, f1, b1⟩)
      refine ⟨_, rfl, _, _, rfl, rfl, _, rfl, ?_⟩
      refine ite2 (fun _ => ?_) (fun _ => ⟨_, rfl, f1, b1⟩)
      refine ⟨_, rfl, _, rfl, a, cl, wd, rfl, f1, by omega, by omega, fun g H2 g0 g1 f2 b2 => ?_⟩
      have hL : ∀ x : Int, 0 ≤ x → x < 100000 ^ wd.toNat → x.natAbs < 2 ^ (17 * wd.toNat) := fun x x0 x1 => by
        have h1 : (100000 : Nat) ^ wd.toNat ≤ (2 ^ 17) ^ wd.toNat := Nat.pow_le_pow_left (by decide) _
        rw [← Nat.pow_mul] at h1
        have e : ((100000 ^ wd.toNat : Nat) : Int) = (100000 : Int) ^ wd.toNat := by rw [Int.natCast_pow]; rfl
        rw [← e] at x1
        omega
      have gB := hL g g0 g1
      have big : (2 : Nat) ^ (17 * wd.toNat) ≤ 2 ^ (17 * wd.toNat + 4) := Nat.pow_le_pow_right (by decide) (by omega)
      have one : (1 : Nat) < 2 ^ (17 * wd.toNat + 4) := Nat.one_lt_two_pow (by omega)
      refine ⟨_, rfl, a, cl, 2, rfl, f2, by decide, by decide, fun z H3 z0 z1 f3 b3 => ⟨_, _, rfl, rfl, .inl (by decide), _, _, rfl, rfl, _, _, rfl, rfl, .inr (by omega), ?_⟩⟩
      refine ⟨_, rfl, _, rfl, _, rfl, a, cl, wd, rfl, f3, by omega, by omega, fun g' H4 g0' g1' f4 b4 => ⟨_, _, rfl, ?_⟩⟩
      have hz : z = 0 ∨ z = 1 := by omega
      have gB' := hL g' g0' g1'
      have hsm : Bt (17 * wd.toNat + 4) (g * (1 - 2 * z)) := by
        show (g * (1 - 2 * z)).natAbs < _
        rcases hz with rfl | rfl <;> omega
      have hd : (0 : Int) < (if g' > 1 then g' else 1) ∧ Bt (17 * wd.toNat + 4) (if g' > 1 then g' else 1 : Int) := by
        refine ⟨by split <;> omega, ?_⟩
        show (if g' > 1 then g' else 1 : Int).natAbs < _
        split <;> omega
      refine ⟨_, _, rfl, by omega, hd.2.up (by omega), fun r H5 s5 nr hR => ?_⟩
      have b4 := b1.trans (b2.trans (b3.trans b4))
      exact pairs r _ _ H5 (f4.same s5) (b4.trans (Same.but s5)) (b4.free nr f4) hR hd.1 hsm hd.2
    rintro σ' H2 ⟨o, rfl, f2, b2⟩
    refine ⟨_, rfl, a, cl, 19, rfl, f2, by decide, by decide, fun x H3 x0 x1 f3 b3 => ⟨_, _, rfl, rfl, ?_⟩⟩
    refine ⟨_, rfl, a, cl, 6, rfl, f3, by decide, by decide, fun y H4 y0 y1 f4 b4 => ⟨_, _, rfl, rfl, ?_⟩⟩
    have b4 := b2.trans (b3.trans b4)
    have by4 : Bt 4 (1 + y) := show (1 + y).natAbs < 2 ^ 4 by omega
    refine ⟨_, _, rfl, by omega, by4.up (by decide), fun r H5 s5 nr hR => ?_⟩
    exact pairs r _ _ H5 (f4.same s5) (b4.trans (Same.but s5)) (b4.free nr f4) hR (by omega) (wb (show (x - 9).natAbs < 2 ^ 4 by omega)) (wb by4)
theorem ok_other {f fN fD : Addr} {fd dN dD : FuncData} (F : Fun K "_law_other" "_law_other" sOther f fd) (cN : CalN P w K mg base "_law_number" 3 ["feed", "wide"] spNumQ fN dN) (cD : CalN P w K mg base "_law_draw" 1 ["feed", "limit"] spDraw fD dD) :
    FnOk P w K mg base CX0 4 f fd ["feed", "wide"] spOther := by
  refine F.ok scOt (fun vs H Q E h => ?_) (fun cdv A outer s H vs Q E hr h => ?_)
  · obtain ⟨a, cl, wd, rfl, _⟩ := h
    rfl
  · obtain ⟨a, cl, wd, rfl, hF, h0, h1, kk⟩ := h
    have hr1 : Room 1 _ := hr.mono (by decide)
    refine ⟨_, pss_cons (ps_set (i := 2) scOt.nd rfl (.inl rfl) (pe_call cN.G hr rfl cN.m cN.kp cN.b .nil pass0 (pa_cons (pv 0) (pa_cons (pv 1) pa_nil))))
      (pss_cons (ps_if (pt_cmpR op_eq (pe_ix ix_tup (pv 2) pe_int (fun _ _ => rfl)) pe_int (nomark _)) (pss_one (ps_ret (pe_tup (pa_cons pe_int (pa_cons (pe_op op_add pe_int (pe_call cD.G hr1 rfl cD.m cD.kp cD.b .nil pass0 (pa_cons (pv 0) (pa_cons pe_int pa_nil)))) pa_nil))))) pss_nil)
      (pss_one (ps_ret (pv 2)))), ?_⟩
    refine ⟨_, rfl, _, rfl, a, cl, wd, rfl, hF, h0, h1, fun r q H1 f1 b1 nr hR ok => ?_⟩
    refine ⟨_, rfl, r, _, 0, _, rfl, rfl, hR.t, rfl, rfl, _, rfl, ?_⟩
    by_cases z : q = 0
    · refine iteT' (decide_eq_true (by rw [z]; rfl)) ?_
      refine ⟨_, rfl, a, cl, 3, rfl, f1, by decide, by decide, fun x H2 x0 x1 f2 b2 => ⟨_, _, rfl, rfl, (by show 2 ≤ sizeLine; decide), fun r2 nr2 => ?_⟩⟩
      have b2 := b1.trans b2
      obtain ⟨q', e1, e2⟩ := pr_of (n := 1) (d := 1 + x) (by omega) (by rw [show (1 : Int).natAbs = 1 from rfl]; exact Nat.coprime_one_left _)
      have w4 : ∀ {y : Int}, Bt 4 y → Bt (17 * wd.toNat + 4) y := fun h => h.up (by omega)
      refine kk r2 q' _ (f2.same (Same.upd nr2)) (b2.trans (Same.but (Same.upd nr2))) (b2.free nr2 f2) ?_ ⟨by rw [e1]; exact w4 bt1, by rw [e2]; exact w4 (show (1 + x).natAbs < 2 ^ 4 by omega)⟩ fun y => ?_
      · show PairAt _ r2 q'.num (q'.den : Int)
        rw [e1, e2]
        exact upd_same
      · rw [y] at e1
        cases e1
    · refine iteF' (decide_eq_false fun y => z (RQ.num0.mp (by injection y))) ?_
      exact ⟨_, rfl, kk r q H1 f1 b1 nr hR ok z⟩
theorem ok_ratsQ {f fI C : Addr} {fd fdI : FuncData} (F : Fun K "_law_ratios" "_law_ratios" sRats f fd) (T : TxtP mg) (R : TxtR K mg C) (M : Mk K C fI) (GI : FnOk P w K mg base CX0 33 fI fdI ["self", "top", "bottom"] (spInitB C)) (bI : Binds K fdI ["self", "top", "bottom"] []) :
    FnOk P w K mg base CX0 35 f fd ["line"] (spRatsQ C) := by
  refine F.ok scRs (fun vs H Q E h => ?_) (fun cdv A outer s H vs Q E hr h => ?_)
  · obtain ⟨q, k, a, u, rfl, _⟩ := h
    rfl
  · obtain ⟨q, k, a, u, rfl, hq, hk, kk⟩ := h
    refine ⟨_, pss_one (ps_ret (pe_callTy call_tuple_of (by rfl) T.tup (by decide +kernel) (pa_cons (pe_lc (own := [("one", 1)]) (g := gName 1) (tt := tYes) rfl scRs.nd (pi_list (pv 0)) (blkOk_by (N := ["line", "one"]) (sc := defScope sRats) (by decide +kernel))
        (fun _ _ _ _ _ => pg_name (i := 1) scRs.nd rfl (Or.inl rfl)) (fun _ _ _ _ _ => pts_nil) (fun _ _ _ _ _ => pe_make M GI hr rfl R.mgC bI .nil pass0 (pa_cons (pe_ix (show IxR _ (rIxT K) from ix_tup) (pv 1) pe_int (fun _ _ => rfl)) (pa_cons (pe_ix (show IxR _ (rIxT K) from ix_tup) (pv 1) pe_int (fun _ _ => rfl)) pa_nil)))) pa_nil))), ?_⟩
    refine ⟨_, rfl, q, rfl, ⟨_, SqL.of hq.hq⟩, fun D nD => ?_⟩
    refine lc_list (K := K) (a := q) (xs := refs k a) (fun i H2 => ∃ S, Built (fun H j x => RatQ C H x (u j)) H D i S H2) ⟨_, built0 nD⟩ (fun i H2 _ ⟨S, B⟩ => SqL.of (B.s _ _ hq.hq)) ?_ ?_
    · rintro i x H2 hi ⟨S, B⟩
      obtain ⟨hi', rfl⟩ := refs_lt hi
      have pa := (hq.p i hi').same B.s
      refine ⟨rfl, ?_⟩
      refine ⟨_, rfl, a i, _, 0, _, rfl, rfl, pa.t, rfl, _, rfl, a i, _, 1, _, rfl, rfl, pa.t, rfl, ?_⟩
      obtain ⟨q1, q2⟩ := RQ.low (den_ne (u i)) (RQ.nd (u i))
      intro r dx nr nd ne
      refine make3 (den_ne (u i)) nr nd fun H3 s3 hR => ⟨rfl, ?_⟩
      rw [q1, q2] at hR
      refine ⟨_, s3 _ _ B.hD, ?_, _, B.step stays_ratQ nD s3 hR⟩
      rw [refs_len]
      exact small1000 (by omega)
    · rintro H2 ⟨S, B⟩
      have B : Built _ H D (refs k a).length S H2 := B
      rw [refs_len] at B
      refine ⟨D, _, rfl, .inl ⟨SqL.of B.hD, fun r nr => ?_⟩⟩
      refine kk r S _ (B.s.trans (Same.upd nr)) (B.s.free nr) ⟨upd_same, fun j hj => (B.pr j hj).same (Same.upd nr)⟩
end
end RX

set_option Elab.async false
set_option maxRecDepth 100000
/-! steps that keep a table invertible; a table with a dependent row; sizes of sums of products -/
namespace VM
open RQ (Bt)
theorem dot_ones {f g : Nat → Rat} : ∀ {n : Nat}, dot f g n = dot (fun _ => 1) (fun i => f i * g i) n
  | 0 => rfl
  | n + 1 => by
    show dot f g n + f n * g n = dot (fun _ => 1) (fun i => f i * g i) n + 1 * (f n * g n)
    rw [dot_ones]
    grind
theorem dlt_y {a b : Nat} (e : b = a) : dlt a b = 1 := if_pos e.symm
theorem dlt_n {a b : Nat} (e : ¬ b = a) : dlt a b = 0 := if_neg fun z => e z.symm
theorem dot_at {c : Rat} {a n : Nat} (ha : a < n) : dot (fun _ => 1) (fun i => c * dlt a i) n = c := by
  rw [dot_mul, dot_one (u := fun _ => 1) (y := fun i => dlt a i) (k := a) ha fun j hj ne => by
    show 1 * dlt a j = 0
    unfold dlt
    rw [if_neg (fun e => ne e.symm)]
    grind]
  unfold dlt
  rw [if_pos rfl]
  grind
section
variable {n a b : Nat} {U U' : Nat → Nat → Rat} {c : Rat}
theorem ColFree.add (h : ColFree n U) (ha : a < n) (hb : b < n) (ne : a ≠ b) (e1 : ∀ j, j < n → U' a j = U a j + c * U b j) (e2 : ∀ i, i < n → i ≠ a → ∀ j, j < n → U' i j = U i j) : ColFree n U' := fun v hv => h v fun i hi => by
  have sm : ∀ i, i < n → i ≠ a → dot (U i) v n = 0 := fun i hi ne => by
    rw [← hv i hi]
    exact dot_congr (fun j hj => (e2 i hi ne j hj).symm) fun _ _ => rfl
  by_cases e : i = a
  · subst e
    have h1 := hv i hi
    have h2 := sm b hb (fun z => ne z.symm)
    rw [dot_comm, dot_congr (u' := v) (y' := fun j => U i j + c * U b j) (fun _ _ => rfl) e1, dot_add, dot_mul, dot_comm (y := fun k => U i k), dot_comm (y := fun k => U b k), h2] at h1
    grind
  · exact sm i hi e
theorem RowFree.add (h : RowFree n U) (ha : a < n) (hb : b < n) (ne : a ≠ b) (e1 : ∀ j, j < n → U' a j = U a j + c * U b j) (e2 : ∀ i, i < n → i ≠ a → ∀ j, j < n → U' i j = U i j) : RowFree n U' := fun x hx => by
  have z := h (fun i => x i + (c * x a) * dlt b i) fun j hj => by
    rw [dot_ones, ← hx j hj, dot_ones (f := x)]
    have q : dot (fun _ => 1) (fun i => (x i + (c * x a) * dlt b i) * U i j) n = dot (fun _ => 1) (fun i => x i * U' i j + ((c * x a * U b j) * dlt b i + (-1) * ((c * x a * U b j) * dlt a i))) n := dot_congr (fun _ _ => rfl) fun i hi => by
      by_cases ea : i = a
      · subst ea
        rw [e1 j hj, dlt_n ne, dlt_y rfl]
        grind
      · rw [e2 i hi ea j hj, dlt_n ea]
        by_cases eb : i = b
        · subst eb
          rw [dlt_y rfl]
          grind
        · rw [dlt_n eb]
          grind
    rw [q, dot_add, dot_add, dot_at hb, dot_mul, dot_at ha]
    grind
  have xa : x a = 0 := by
    have := z a ha
    have : x a + (c * x a) * dlt b a = 0 := this
    rw [dlt_n ne] at this
    grind
  intro i hi
  have := z i hi
  have : x i + (c * x a) * dlt b i = 0 := this
  rw [xa] at this
  grind
theorem ColFree.swap (h : ColFree n U) (ha : a < n) (hb : b < n) (e1 : ∀ j, j < n → U' a j = U b j) (e2 : ∀ j, j < n → U' b j = U a j) (e3 : ∀ i, i < n → i ≠ a → i ≠ b → ∀ j, j < n → U' i j = U i j) : ColFree n U' := fun v hv => h v fun i hi => by
  by_cases ea : i = a
  · subst ea
    rw [← hv b hb]
    exact dot_congr (fun j hj => (e2 j hj).symm) fun _ _ => rfl
  · by_cases eb : i = b
    · subst eb
      rw [← hv a ha]
      exact dot_congr (fun j hj => (e1 j hj).symm) fun _ _ => rfl
    · rw [← hv i hi]
      exact dot_congr (fun j hj => (e3 i hi ea eb j hj).symm) fun _ _ => rfl
theorem RowFree.swap (h : RowFree n U) (ha : a < n) (hb : b < n) (ne : a ≠ b) (e1 : ∀ j, j < n → U' a j = U b j) (e2 : ∀ j, j < n → U' b j = U a j) (e3 : ∀ i, i < n → i ≠ a → i ≠ b → ∀ j, j < n → U' i j = U i j) : RowFree n U' := fun x hx => by
  have z := h (fun i => if i = a then x b else if i = b then x a else x i) fun j hj => by
    rw [dot_ones, ← hx j hj, dot_ones (f := x)]
    have q : dot (fun _ => 1) (fun i => (if i = a then x b else if i = b then x a else x i) * U i j) n = dot (fun _ => 1) (fun i => x i * U' i j + ((x b * U a j - x a * U b j) * dlt a i + (x a * U b j - x b * U a j) * dlt b i)) n := dot_congr (fun _ _ => rfl) fun i hi => by
      show (if i = a then x b else if i = b then x a else x i) * U i j = _
      by_cases ea : i = a
      · subst ea
        rw [if_pos rfl, dlt_y rfl, dlt_n ne, e1 j hj]
        grind
      · rw [if_neg ea, dlt_n ea]
        by_cases eb : i = b
        · subst eb
          rw [if_pos rfl, dlt_y rfl, e2 j hj]
          grind
        · rw [if_neg eb, dlt_n eb, e3 i hi ea eb j hj]
          grind
    rw [q, dot_add, dot_add, dot_at ha, dot_at hb]
    grind
  intro i hi
  by_cases ea : i = a
  · have := z b hb
    have : (if b = a then x b else if b = b then x a else x b) = 0 := this
    rw [if_neg (fun z => ne z.symm), if_pos rfl] at this
    rw [ea]; exact this
  · by_cases eb : i = b
    · have := z a ha
      have : (if a = a then x b else if a = b then x a else x a) = 0 := this
      rw [if_pos rfl] at this
      rw [eb]; exact this
    · have := z i hi
      have : (if i = a then x b else if i = b then x a else x i) = 0 := this
      rw [if_neg ea, if_neg eb] at this
      exact this
theorem free_diag {d : Nat → Rat} (h : ∀ i, i < n → d i ≠ 0) (e : ∀ i, i < n → ∀ j, j < n → U i j = if i = j then d i else 0) : ColFree n U ∧ RowFree n U := by
  constructor
  · intro v hv j hj
    have := hv j hj
    rw [dot_one (k := j) hj fun k hk ne => by rw [e j hj k hk, if_neg (fun z => ne z.symm)]; grind, e j hj j hj, if_pos rfl] at this
    have d0 := h j hj
    grind
  · intro x hx j hj
    have := hx j hj
    rw [dot_one (u := x) (y := fun i => U i j) (k := j) hj fun k hk ne => by show x k * U k j = 0; rw [e k hk j hj, if_neg ne]; grind] at this
    have : x j * U j j = 0 := this
    rw [e j hj j hj, if_pos rfl] at this
    have d0 := h j hj
    grind
/-- a row in the place of the sum of the others -/
theorem dep_sum {cs v : Nat → Rat} (ha : a < n) (c0 : cs a = 0) (hv : ∀ j, j < n → v j = dot cs (fun i => U i j) n) (e1 : ∀ j, j < n → U' a j = v j) (e2 : ∀ i, i < n → i ≠ a → ∀ j, j < n → U' i j = U i j) :
    ∀ j, j < n → dot (fun i => if i = a then -1 else cs i) (fun i => U' i j) n = 0 := fun j hj => by
  rw [dot_ones]
  have q : dot (fun _ => 1) (fun i => (if i = a then -1 else cs i) * U' i j) n = dot (fun _ => 1) (fun i => cs i * U i j + (- v j) * dlt a i) n := dot_congr (fun _ _ => rfl) fun i hi => by
    show (if i = a then -1 else cs i) * U' i j = _
    by_cases ea : i = a
    · subst ea
      rw [if_pos rfl, dlt_y rfl, e1 j hj, c0]
      grind
    · rw [if_neg ea, dlt_n ea, e2 i hi ea j hj]
      grind
  rw [q, dot_add, dot_at ha, ← dot_ones, ← hv j hj]
  grind
end
/-- bits of a sum of products, part by part -/
theorem dot_ov {u y : Nat → Rat} {p q : Nat} : ∀ {k : Nat}, (∀ i, i < k → (Bt p (u i).num ∧ Bt p ((u i).den : Int)) ∧ Bt q (y i).num ∧ Bt q ((y i).den : Int)) → ∃ M : Int, M ≠ 0 ∧ Bt ((p + q) * k + 1) M ∧ Ov M ((p + q) * (k + 1) + k + 1) (dot u y k)
  | 0, _ => ⟨1, by decide, (show (1 : Int).natAbs < 2 ^ ((p + q) * 0 + 1) by rw [Nat.mul_zero]; decide), Ov.zero _ _⟩
  | k + 1, h => by
    obtain ⟨M, m0, mb, mo⟩ := dot_ov (k := k) fun i hi => h i (by omega)
    obtain ⟨⟨h1, h2⟩, h3, h4⟩ := h k (by omega)
    have o := (Ov.self h1).mul (Ov.self h3)
    have nb := h2.mul h4
    refine ⟨M * (((u k).den : Int) * ((y k).den : Int)), Int.mul_ne_zero m0 (Int.mul_ne_zero (den_ne _) (den_ne _)), (mb.mul nb).up (by rw [Nat.mul_succ]; omega), ?_⟩
    have a1 := (mo.lift nb).up (T := (p + q) * (k + 1 + 1) + k + 1) (by rw [Nat.mul_succ (p + q) (k + 1)]; omega)
    have a2 := (o.lift mb).comm.up (T := (p + q) * (k + 1 + 1) + k + 1) (by rw [Nat.mul_succ (p + q) (k + 1), Nat.mul_succ (p + q) k]; omega)
    exact a1.add a2
end VM

set_option Elab.async false
set_option maxRecDepth 100000
namespace RX
open PySem L2 VM
open RQ (Hg Bt)
/-! ### tables of the law: a row added, the drawn square -/
abbrev sAdded : Stmt := topS 33
abbrev sSquare : Stmt := topS 34
abbrev outSq : Scope := { kind := .function, names := [(".0", .local), ("k", .local), ("range", .globalImplicit), ("size", .cell)], isGenerator := false, isCoroutine := false }
theorem refs_set (w : Nat) (S : Nat → Addr) (j : Nat) (x : Addr) : (refs w S).set j (.ref x) = refs w (fun i => if i = j then x else S i) := by
  refine List.ext_getElem? fun i => ?_
  rw [List.getElem?_set]
  by_cases hi : i < w
  · by_cases e : j = i
    · subst e
      rw [if_pos rfl, if_pos (by rw [refs_len]; exact hi), refs_get hi, if_pos rfl]
    · rw [if_neg e, refs_get hi, refs_get hi, if_neg (fun z => e z.symm)]
  · rw [List.getElem?_eq_none (show (refs w fun i => if i = j then x else S i).length ≤ i by rw [refs_len]; omega)]
    by_cases e : j = i
    · subst e
      rw [if_pos rfl, if_neg (by rw [refs_len]; exact hi)]
    · rw [if_neg e, List.getElem?_eq_none (by rw [refs_len]; omega)]
theorem ixN_of {n j : Nat} (h : j < n) : ixN n (j : Int) = some j := by
  unfold ixN
  rw [if_pos (by omega), if_pos (by omega)]
  rfl
theorem ovHg {M : Int} {m T : Nat} {q : Rat} (h : Ov M T q) (M0 : M ≠ 0) (Mb : Bt m M) (h1 : m ≤ 60000000) (h2 : T ≤ 60000000) : HgQ q := ⟨(h.den M0).2.hg h2, (dvd_bt (h.den M0).1 M0 Mb).hg h1⟩
theorem stays_pr {u : Nat → Rat} : Stays (fun H j x => PrQ H x (u j)) := ⟨fun s h => h.same s, fun h2 h => h.other (h.ne h2)⟩
theorem lineQ_congr {H : Hp} {p : Addr} {w : Nat} {a : Nat → Addr} {u v : Nat → Rat} (h : LineQ H p w a u) (e : ∀ j, j < w → u j = v j) : LineQ H p w a v :=
  ⟨h.hq, fun i hi => by
    have q := h.p i hi
    have q : PairAt H (a i) (u i).num ((u i).den : Int) := q
    rw [e i hi] at q
    exact q⟩
def spAdded : Sp := fun vs H Q _ => ∃ (p r q : Addr) (n : Nat) (a b : Nat → Addr) (u v : Nat → Rat) (c : Rat), vs = [.ref p, .ref r, .ref q] ∧ LineQ H p n a u ∧ PrQ H r c ∧ LineQ H q n b v ∧ n ≤ 1000 ∧ HgQ c ∧ (∀ j, j < n → HgQ (u j) ∧ HgQ (v j) ∧ HgQ (c * v j)) ∧
  ∀ (x : Addr) (S : Nat → Addr) (H' : Hp), Same H H' → H x = none → LineQ H' x n S (fun j => u j + c * v j) → Q (.ref x) H'
/-- a square list of lists of pairs that is invertible, and its sizes -/
structure Sq (H : Hp) (D a cl : Addr) (n : Nat) (R : Nat → Addr) (A : Nat → Nat → Addr) (U : Nat → Nat → Rat) (M : Int) (m t : Nat) : Prop where
  l : LinesQ H D n n R A U
  na : ∀ i, i < n → R i ≠ a ∧ R i ≠ cl ∧ R i ≠ D
  cf : ColFree n U
  rf : RowFree n U
  M0 : M ≠ 0
  Mb : Bt m M
  ov : ∀ i, i < n → ∀ j, j < n → Ov M t (U i j)
theorem Sq.up {H : Hp} {D a cl : Addr} {n : Nat} {R : Nat → Addr} {A : Nat → Nat → Addr} {U : Nat → Nat → Rat} {M : Int} {m t m' t' : Nat} (q : Sq H D a cl n R A U M m t) (h1 : m ≤ m') (h2 : t ≤ t') : Sq H D a cl n R A U M m' t' :=
  ⟨q.l, q.na, q.cf, q.rf, q.M0, q.Mb.up h1, fun i hi j hj => (q.ov i hi j hj).up h2⟩
theorem Sq.but {H H' : Hp} {D a cl : Addr} {n : Nat} {R : Nat → Addr} {A : Nat → Nat → Addr} {U : Nat → Nat → Rat} {M : Int} {m t : Nat} {xs : List V} (q : Sq H D a cl n R A U M m t) (b : But a H H') (hF : H a = some (.lst xs)) (ne : D ≠ a) : Sq H' D a cl n R A U M m t :=
  ⟨LinesAt.but q.l b hF ne fun i hi => (q.na i hi).1, q.na, q.cf, q.rf, q.M0, q.Mb, q.ov⟩
theorem Sq.same {H H' : Hp} {D a cl : Addr} {n : Nat} {R : Nat → Addr} {A : Nat → Nat → Addr} {U : Nat → Nat → Rat} {M : Int} {m t : Nat} (q : Sq H D a cl n R A U M m t) (s : Same H H') : Sq H' D a cl n R A U M m t :=
  ⟨LinesAt.same q.l s, q.na, q.cf, q.rf, q.M0, q.Mb, q.ov⟩
theorem ex_ne {α : Type} (f : Nat → α) {i j : Nat} (x : α) (h : ¬ j = i) : ex f i x j = f j := if_neg h
theorem mod_step {i1 n : Nat} {y : Int} (h : i1 < n) (y0 : 0 ≤ y) (y1 : y < (n : Int) - 1) : ∃ i2 : Nat, ((i1 : Int) + 1 + y) % (n : Int) = (i2 : Int) ∧ i2 < n ∧ i1 ≠ i2 := by
  by_cases l : (i1 : Int) + 1 + y < n
  · exact ⟨((i1 : Int) + 1 + y).toNat, by rw [Int.emod_eq_of_lt (by omega) l]; omega, by omega, by omega⟩
  · refine ⟨((i1 : Int) + 1 + y - n).toNat, ?_, by omega, by omega⟩
    rw [show (i1 : Int) + 1 + y = ((i1 : Int) + 1 + y - n) + n by omega, Int.add_emod_right, Int.emod_eq_of_lt (by omega) (by omega)]
    omega
def spSquare : Sp := fun vs H Q _ => ∃ (a cl : Addr) (n : Nat) (wd : Int), vs = [.ref a, .int (n : Nat), .int wd] ∧ FeedAt H a cl ∧ 0 ≤ wd ∧ wd ≤ 4 ∧ n ≤ 6 ∧
  ∀ (r : Addr) (R : Nat → Addr) (A : Nat → Nat → Addr) (U : Nat → Nat → Rat) (M : Int) (H' : Hp), FeedAt H' a cl → But a H H' → H r = none → Sq H' r a cl n R A U M 481 565 → Q (.ref r) H'
section
variable {P : Program} {w : World} {K : PySem.W.Frag} {mg : Str → Option Value} {base : Heap}
theorem scAd : FnScope ["line", "number", "other", "k"] ["line", "number", "other"] (defScope sAdded) := ⟨rfl, rfl, rfl, by decide +kernel, rfl, by decide +kernel, by decide +kernel⟩
theorem scSq : FnScope ["feed", "size", "wide", "k", "found", "turn", "one", "two", "place"] ["feed", "size", "wide"] (defScope sSquare) := ⟨rfl, rfl, rfl, by decide +kernel, rfl, by decide +kernel, by decide +kernel⟩
theorem ok_added {f fS fB : Addr} {fd dS dB : FuncData} (F : Fun K "_law_added" "_law_added" sAdded f fd) (T : TxtL mg) (cS : CalN P w K mg base "_law_sum" 34 ["one", "two"] spSumQ fS dS) (cB : CalN P w K mg base "_law_by" 34 ["one", "two"] spByQ fB dB) :
    FnOk P w K mg base CX0 35 f fd ["line", "number", "other"] spAdded := by
  refine F.ok scAd (fun vs H Q E h => ?_) (fun cdv A outer s H vs Q E hr h => ?_)
  · obtain ⟨p, r, q, n, a, b, u, v, c, rfl, _⟩ := h
    rfl
  · obtain ⟨p, r, q, n, a, b, u, v, c, rfl, hp, hr', hq, n1, gc, g, kk⟩ := h
    refine ⟨_, pss_one (ps_ret (pe_lc (own := [("k", 3)]) (g := gName 3) (tt := tYes) rfl scAd.nd (pi_range1 rfl T.range (pa_cons (pe_callB call_len_seq (by rfl) T.len PySem.boot_len (pa_cons (pv 0) pa_nil)) pa_nil)) (blkOk_by (N := ["line", "number", "other", "k"]) (sc := defScope sAdded) (by decide +kernel))
        (fun _ _ _ _ _ => pg_name (i := 3) scAd.nd rfl (.inl rfl)) (fun _ _ _ _ _ => pts_nil) (fun _ _ _ _ _ => pe_call cS.G hr rfl cS.m cS.kp cS.b .nil pass0 (pa_cons (pe_ix (show IxR _ (rIxL K) from ix_list) (pv 0) (pv 3) (fun _ _ => rfl))
          (pa_cons (pe_call cB.G hr rfl cB.m cB.kp cB.b .nil pass0 (pa_cons (pv 1) (pa_cons (pe_ix (show IxR _ (rIxL K) from ix_list) (pv 2) (pv 3) (fun _ _ => rfl)) pa_nil))) pa_nil))))), ?_⟩
    refine ⟨_, rfl, p, _, rfl, .inl (SqL.of hp.hq), _, rfl, by rw [refs_len]; omega, by rw [refs_len]; omega, fun D nD => ?_⟩
    rw [refs_len]
    refine lc_range (lo := 0) (n := n) (fun i H2 => ∃ S, Built (fun H j x => PrQ H x (u j + c * v j)) H D i S H2) ⟨_, built0 nD⟩ ?_ ?_
    · rintro i H2 hi ⟨S, B⟩
      have hp2 := hp.same B.s
      have hq2 := hq.same B.s
      obtain ⟨g1, g2, g3⟩ := g i hi
      refine ⟨rfl, ?_⟩
      refine ⟨_, rfl, _, rfl, p, _, _, _, rfl, rfl, SqL.of hp2.hq, at_of (Int.zero_add _) (refs_get hi), _, rfl, _, rfl, _, rfl, q, _, _, _, rfl, rfl, SqL.of hq2.hq, at_of (Int.zero_add _) (refs_get hi), ?_⟩
      refine ⟨_, _, _, _, rfl, PairAt.same hr' B.s, hq2.p i hi, gc, g2, fun r5 H5 s5 n5 h5 => ?_⟩
      refine ⟨_, _, _, _, rfl, (hp2.p i hi).same s5, h5, g1, g3, fun r6 H6 s6 n6 h6 => ?_⟩
      exact ⟨_, (s5.trans s6) _ _ B.hD, by rw [refs_len]; exact small1000 (by omega), _, B.step (x := r6) (stays_pr (u := fun j => u j + c * v j)) nD (s5.trans s6) h6⟩
    · rintro H2 ⟨S, B⟩
      exact kk D S H2 B.s nD ⟨B.hD, B.pr⟩
theorem ok_square {f fO fD fA fN : Addr} {fd dO dD dA dN : FuncData} (F : Fun K "_law_square" "_law_square" sSquare f fd) (T : TxtL mg) (cO : CalN P w K mg base "_law_other" 4 ["feed", "wide"] spOther fO dO) (cD : CalN P w K mg base "_law_draw" 1 ["feed", "limit"] spDraw fD dD)
    (cA : CalN P w K mg base "_law_added" 35 ["line", "number", "other"] spAdded fA dA) (cN : CalN P w K mg base "_law_number" 3 ["feed", "wide"] spNumQ fN dN) : FnOk P w K mg base CX0 36 f fd ["feed", "size", "wide"] spSquare := by
  refine F.ok scSq (fun vs H Q E h => ?_) (fun cdv A outer s H vs Q E hr h => ?_)
  · obtain ⟨a, cl, n, wd, rfl, _⟩ := h
    rfl
  · obtain ⟨a, cl, n, wd, rfl, hF, h0, h1, n6, kk⟩ := h
    have hr1 : Room 1 _ := hr.mono (by decide)
    have hr3 : Room 3 _ := hr.mono (by decide)
    have hr4 : Room 4 _ := hr.mono (by decide)
    have hr35 : Room 35 _ := hr.mono (by decide)
    refine ⟨_, pss_cons (ps_setLc (i := 4) (own := [("k", 3)]) (g := gName 3) (tt := tYes) rfl scSq.nd rfl rfl (sw_true rfl rfl rfl (by decide +kernel)) (pi_range1 rfl T.range (pa_cons (pv 1) pa_nil)) (blkOk_by (N := ["feed", "size", "wide", "k", "found", "turn", "one", "two", "place"]) (sc := defScope sSquare) (by decide +kernel))
          (fun _ _ _ _ _ => pg_name (i := 3) scSq.nd rfl (.inl rfl)) (fun _ _ _ _ _ => pts_nil)
          (fun _ _ _ _ _ => pe_lc (own := [("place", 8)]) (g := gName 8) (tt := tYes) rfl scSq.nd (pi_range1 rfl T.range (pa_cons (pv 1) pa_nil)) (blkOk_by (N := ["feed", "size", "wide", "k", "found", "turn", "one", "two", "place"]) (sc := outSq) (by decide +kernel))
            (fun _ _ _ _ _ => pg_name (i := 8) scSq.nd rfl (.inl rfl)) (fun _ _ _ _ _ => pts_nil) (fun _ _ _ _ _ => pe_tup (pa_cons pe_int (pa_cons pe_int pa_nil)))))
      (pss_cons (ps_for PassesOwn.never rfl (pi_range1 rfl T.range (pa_cons (pv 1) pa_nil)) (pg_name (i := 3) scSq.nd rfl (.inl rfl))
        (pss_one (ps_asg (pe_call cO.G hr4 rfl cO.m cO.kp cO.b .nil pass0 (pa_cons (pv 0) (pa_cons (pv 2) pa_nil))) (pg_sub (pe_ix ix_list (pv 4) (pv 3) (fun _ _ => rfl)) (pv 3) set_list))))
      (pss_cons (ps_if (pt_cmpR op_lt (pv 1) pe_int (nomark _)) (pss_one (ps_ret (pv 4))) pss_nil)
      (pss_cons (ps_for PassesOwn.never rfl (pi_range1 rfl T.range (pa_cons (pe_call cD.G hr1 rfl cD.m cD.kp cD.b .nil pass0 (pa_cons (pv 0) (pa_cons pe_int pa_nil))) pa_nil)) (pg_name (i := 5) scSq.nd rfl (.inl rfl))
        (pss_cons (ps_set (i := 6) scSq.nd rfl (.inl rfl) (pe_call cD.G hr1 rfl cD.m cD.kp cD.b .nil pass0 (pa_cons (pv 0) (pa_cons (pv 1) pa_nil))))
        (pss_cons (ps_set (i := 7) scSq.nd rfl (.inl rfl) (pe_op op_mod (pe_op op_add (pe_op op_add (pv 6) pe_int) (pe_call cD.G hr1 rfl cD.m cD.kp cD.b .nil pass0 (pa_cons (pv 0) (pa_cons (pe_op op_sub (pv 1) pe_int) pa_nil)))) (pv 1)))
        (pss_one (ps_if (pt_cmpR op_eq (pe_call cD.G hr1 rfl cD.m cD.kp cD.b .nil pass0 (pa_cons (pv 0) (pa_cons pe_int pa_nil))) pe_int (nomark _))
          (pss_one (ps_asg (pe_tup (pa_cons (pe_ix ix_list (pv 4) (pv 7) (fun _ _ => rfl)) (pa_cons (pe_ix ix_list (pv 4) (pv 6) (fun _ _ => rfl)) pa_nil)))
            (pg_tup rfl (pgs_cons (pg_sub (pv 4) (pv 6) set_list) (pgs_cons (pg_sub (pv 4) (pv 7) set_list) pgs_nil)))))
          (pss_one (ps_asg (pe_call cA.G hr35 rfl cA.m cA.kp cA.b .nil pass0 (pa_cons (pe_ix ix_list (pv 4) (pv 6) (fun _ _ => rfl)) (pa_cons (pe_call cN.G hr3 rfl cN.m cN.kp cN.b .nil pass0 (pa_cons (pv 0) (pa_cons pe_int pa_nil))) (pa_cons (pe_ix ix_list (pv 4) (pv 7) (fun _ _ => rfl)) pa_nil))))
            (pg_sub (pv 4) (pv 6) set_list))))))))
      (pss_one (ps_ret (pv 4)))))), ?_⟩
    generalize hDb : 17 * wd.toNat + 4 = Db
    have Db72 : Db ≤ 72 := by omega
    have Db4 : 4 ≤ Db := by omega
    have Dn : Db * n ≤ 72 * 6 := Nat.mul_le_mul Db72 n6
    refine ⟨_, rfl, _, rfl, by omega, by omega, fun D nD => ?_⟩
    obtain ⟨xsa, ha0⟩ := hF.lst
    obtain ⟨xsc, hc0⟩ := hF.lst2
    have Da : D ≠ a := (ne_of_none ha0 nD).symm
    have Dc : D ≠ cl := (ne_of_none hc0 nD).symm
    refine lc_range (lo := 0) (n := n) (fun i H2 => ∃ S B, H2 D = some (.lst (refs i S)) ∧ (∀ j, j < i → LineQ H2 (S j) n (B j) (fun _ => 0) ∧ S j ≠ D ∧ H (S j) = none) ∧ (∀ j k, j < i → k < i → S j = S k → j = k) ∧ Same H H2)
      ⟨fun _ => 0, fun _ _ => 0, upd_same, fun j h => absurd h (by omega), fun j k h => absurd h (by omega), Same.upd nD⟩ ?_ ?_
    · rintro i H2 hi ⟨S, B, hD, hS, inj, s2⟩
      refine ⟨rfl, ?_⟩
      refine ⟨_, rfl, _, rfl, by omega, by omega, fun G nG => ?_⟩
      have GD : G ≠ D := (ne_of_none hD nG).symm
      refine lc_range (lo := 0) (n := n) (fun j H3 => ∃ S2, Built (fun H _ x => PrQ H x 0) H2 G j S2 H3) ⟨_, built0 nG⟩ ?_ ?_
      · rintro j H3 hj ⟨S2, Bu⟩
        refine ⟨rfl, ?_⟩
        refine ⟨(by show 2 ≤ sizeLine; decide), fun t0 nt => ?_⟩
        have s3 : Same H3 (upd H3 t0 (.tup [.int 0, .int 1])) := Same.upd nt
        exact ⟨_, s3 _ _ Bu.hD, by rw [refs_len]; exact small1000 (by omega), _, Bu.step (x := t0) (stays_pr (u := fun _ => 0)) nG s3 upd_same⟩
      · rintro H3 ⟨S2, Bu⟩
        have hD3 := Bu.s _ _ hD
        refine ⟨_, hD3, by rw [refs_len]; exact small1000 (by omega), ext S i G, ext B i S2, by rw [upd_same, refs_ext], fun t ht => ?_, fun j k hj hk e => ?_, fun c o e => by rw [upd_ne (ne_of_none e nD)]; exact (s2.trans Bu.s) _ _ e⟩
        · by_cases e : t = i
          · subst e; rw [ext_same, ext_same]
            exact ⟨LineAt.other ⟨Bu.hD, Bu.pr⟩ hD3 GD, GD, s2.free nG⟩
          · rw [ext_lt S G (by omega), ext_lt B S2 (by omega)]
            obtain ⟨q1, q2, q3⟩ := hS t (by omega)
            exact ⟨(LineAt.same q1 Bu.s).other hD3 q2, q2, q3⟩
        · have ne : ∀ t, t < i → S t ≠ G := fun t ht => ne_of_none (hS t ht).1.hq nG
          by_cases ej : j = i
          · by_cases ek : k = i
            · omega
            · rw [ej, ext_same, ext_lt S G (by omega)] at e
              exact absurd e.symm (ne k (by omega))
          · by_cases ek : k = i
            · rw [ek, ext_same, ext_lt S G (by omega)] at e
              exact absurd e (ne j (by omega))
            · rw [ext_lt S G (by omega), ext_lt S G (by omega)] at e
              exact inj j k (by omega) (by omega) e
    rintro H2 ⟨S, B, hD, hS, inj, s2⟩
    have f2 := hF.same s2
    have Sa : ∀ i, i < n → S i ≠ a := fun i hi => (ne_of_none ha0 (hS i hi).2.2).symm
    have Sc : ∀ i, i < n → S i ≠ cl := fun i hi => (ne_of_none hc0 (hS i hi).2.2).symm
    refine ⟨_, rfl, _, rfl, by omega, by omega, for_range (n := n) (fun k σ H3 => ∃ o3 A d M, σ = [some (.ref a), some (.int (n : Nat)), some (.int wd), o3, some (.ref D), none, none, none, none] ∧ FeedAt H3 a cl ∧ But a H H3 ∧ H3 D = some (.lst (refs n S)) ∧
        (∀ i, i < n → LineQ H3 (S i) n (A i) (fun j => if i = j ∧ i < k then d i else 0)) ∧ (∀ i, i < k → d i ≠ 0) ∧ M ≠ 0 ∧ Bt (Db * k + 1) M ∧ ∀ i, i < k → Ov M (Db * k + 1 + Db) (d i))
      ⟨_, B, fun _ => 0, 1, rfl, f2, Same.but s2, hD, fun i hi => lineQ_congr (hS i hi).1 fun j hj => by rw [if_neg (by omega)], fun i h => absurd h (by omega), by decide, (show (1 : Int).natAbs < 2 ^ (Db * 0 + 1) by rw [Nat.mul_zero]; decide), fun i h => absurd h (by omega)⟩ ?_ ?_⟩
    · rintro k σ H3 hk ⟨o3, A', d, M, rfl, f3, b3, hD3, hl, hd, M0, Mb, ov⟩
      refine ⟨_, rfl, _, rfl, a, cl, wd, rfl, f3, h0, h1, fun r q H4 f4 b4 nr hR ok q0 => ?_⟩
      have ok : Bt Db q.num ∧ Bt Db (q.den : Int) := by rw [← hDb]; exact ok
      obtain ⟨xs3, ha3⟩ := f3.lst
      have hD4 := b4 _ _ hD3 Da
      have row := fun i (hi : i < n) => (hl i hi).but b4 ha3 (Sa i hi)
      have rk := row k hk
      refine ⟨_, rfl, _, rfl, D, _, _, _, rfl, rfl, SqL.of hD4, at_of (Int.zero_add _) (refs_get hk), _, rfl, S k, _, _, k, rfl, rfl, rk.hq, by rw [refs_len, Int.zero_add]; exact ixN_of hk, ?_⟩
      rw [refs_set]
      refine ⟨_, ex A' k (ex (A' k) k r), ex d k q, M * (q.den : Int), rfl, f4.other (Sa k hk) (Sc k hk), fun b o e ne => by rw [upd_ne (ne_of_none e (hS k hk).2.2)]; exact b3.trans b4 b o e ne, by rw [upd_ne (fun z => (hS k hk).2.1 z.symm)]; exact hD4, fun i hi => ?_, fun i hi => ?_, Int.mul_ne_zero M0 (den_ne q), (Mb.mul ok.2).up (by rw [Nat.mul_succ]; omega), fun i hi => ?_⟩
      · by_cases e : i = k
        · subst e
          rw [ex_same]
          refine ⟨upd_same, fun j hj => ?_⟩
          show PairAt _ (ex (A' i) i r j) ((if i = j ∧ i < i + 1 then ex d i q i else 0 : Rat)).num (((if i = j ∧ i < i + 1 then ex d i q i else 0 : Rat)).den : Int)
          by_cases ej : j = i
          · subst ej
            rw [ex_same, if_pos ⟨rfl, Nat.lt_succ_self _⟩, ex_same]
            exact hR.other (hR.ne rk.hq)
          · rw [ex_ne _ _ ej, if_neg (fun z => ej z.1.symm)]
            have z := rk.p j hj
            have z : PairAt H4 (A' i j) ((if i = j ∧ i < i then d i else 0 : Rat)).num (((if i = j ∧ i < i then d i else 0 : Rat)).den : Int) := z
            rw [if_neg (by omega)] at z
            exact z.other (z.ne rk.hq)
        · rw [ex_ne _ _ e]
          refine lineQ_congr ((row i hi).other rk.hq fun z => e (inj i k hi hk z)) fun j hj => ?_
          rw [ex_ne _ _ e]
          by_cases h : i = j ∧ i < k
          · rw [if_pos h, if_pos ⟨h.1, by omega⟩]
          · rw [if_neg h, if_neg (fun z => h ⟨z.1, by omega⟩)]
      · by_cases e : i = k
        · subst e; rw [ex_same]; exact q0
        · rw [ex_ne _ _ e]; exact hd i (by omega)
      · by_cases e : i = k
        · subst e; rw [ex_same]
          exact ((Ov.self ok.1).lift Mb).comm.up (by rw [Nat.mul_succ]; omega)
        · rw [ex_ne _ _ e]
          exact ((ov i (by omega)).lift ok.2).up (by rw [Nat.mul_succ]; omega)
    rintro σ H3 ⟨o3, A', d, M, rfl, f3, b3, hD3, hl, hd, M0, Mb, ov⟩
    obtain ⟨cf, rf⟩ := free_diag (U := fun i j => if i = j ∧ i < n then d i else 0) hd fun i hi j hj => by
      by_cases e : i = j
      · rw [if_pos ⟨e, hi⟩, if_pos e]
      · rw [if_neg (fun z => e z.1), if_neg e]
    have sq : Sq H3 D a cl n S A' (fun i j => if i = j ∧ i < n then d i else 0) M (Db * n + 1) (Db * n + 1 + Db) := ⟨⟨hD3, hl⟩, fun i hi => ⟨Sa i hi, Sc i hi, (hS i hi).2.1⟩, cf, rf, M0, Mb, fun i hi j hj => by
      by_cases e : i = j
      · rw [if_pos ⟨e, hi⟩]; exact ov i hi
      · rw [if_neg (fun z => e z.1)]; exact VM.Ov.zero _ _⟩
    generalize (fun i j => if i = j ∧ i < n then d i else 0) = U at sq
    clear hl hd ov cf rf
    refine ⟨_, rfl, _, _, rfl, rfl, _, rfl, ?_⟩
    refine ite2 (fun z => ?_) (fun z => ?_)
    · exact ⟨_, rfl, kk D S A' U M H3 f3 b3 nD (sq.up (by omega) (by omega))⟩
    have n2 : 2 ≤ n := by
      have : ¬ ((n : Int) < 2) := fun h => z (decide_eq_true h)
      omega
    refine ⟨_, rfl, a, cl, 13, rfl, f3, by decide, by decide, fun z H4 z0 z1 f4 b4 => ?_⟩
    obtain ⟨xs3, ha3⟩ := f3.lst
    refine ⟨_, rfl, by omega, by omega, for_range (n := z.toNat) (fun t σ H5 => ∃ o3 o5 o6 o7 R A U M, σ = [some (.ref a), some (.int (n : Nat)), some (.int wd), o3, some (.ref D), o5, o6, o7, none] ∧ FeedAt H5 a cl ∧ But a H H5 ∧ Sq H5 D a cl n R A U M (Db * n + 1 + 4 * t) (Db * n + 1 + Db + 5 * t))
      ⟨_, _, _, _, S, A', U, M, rfl, f4, b3.trans b4, sq.but b4 ha3 Da⟩ ?_ ?_⟩
    · rintro t σ H5 ht ⟨o3, o5, o6, o7, R, A', U, M, rfl, f5, b5, sq⟩
      refine ⟨_, rfl, _, rfl, a, cl, _, rfl, f5, by omega, by omega, fun x H6 x0 x1 f6 b6 => ?_⟩
      obtain ⟨i1, rfl, hi1⟩ : ∃ i : Nat, x = (i : Int) ∧ i < n := ⟨x.toNat, by omega, by omega⟩
      refine ⟨_, rfl, _, _, rfl, rfl, _, rfl, _, rfl, _, _, rfl, rfl, a, cl, _, rfl, f6, by omega, by omega, fun y H7 y0 y1 f7 b7 => ?_⟩
      obtain ⟨i2, e2, hi2, ne⟩ := mod_step hi1 y0 y1
      refine ⟨_, _, rfl, rfl, _, rfl, _, _, rfl, rfl, by omega, ?_⟩
      dsimp only
      rw [e2]
      refine ⟨_, rfl, a, cl, 4, rfl, f7, by decide, by decide, fun x4 H8 _ _ f8 b8 => ⟨rfl, _, rfl, ?_⟩⟩
      obtain ⟨xs5, ha5⟩ := f5.lst
      have b8 := b6.trans (b7.trans b8)
      have sq := sq.but b8 ha5 Da
      have b58 := b5.trans b8
      have hD8 := sq.l.hq
      have r1 := sq.l.r i1 hi1
      have r2 := sq.l.r i2 hi2
      obtain ⟨xs8, ha8⟩ := f8.lst
      refine ite2 (fun _ => ?_) (fun _ => ?_)
      · refine ⟨_, rfl, _, rfl, D, _, _, _, rfl, rfl, SqL.of hD8, at_of rfl (refs_get hi2), _, rfl, _, rfl, D, _, _, _, rfl, rfl, SqL.of hD8, at_of rfl (refs_get hi1), (by show 2 ≤ sizeLine; decide), fun Tp nT => ?_⟩
        have s9 : Same H8 (upd H8 Tp (.tup [.ref (R i2), .ref (R i1)])) := Same.upd nT
        have hT : upd H8 Tp (.tup [.ref (R i2), .ref (R i1)]) Tp = some (.tup [.ref (R i2), .ref (R i1)]) := upd_same
        have sq := sq.same s9
        have f9 := f8.same s9
        have b59 := b58.trans (Same.but s9)
        have hD9 := sq.l.hq
        generalize upd H8 Tp (.tup [.ref (R i2), .ref (R i1)]) = H9 at *
        refine ⟨Tp, _, rfl, SqT.of hT, rfl, _, _, rfl, _, rfl, _, rfl, D, _, _, i1, rfl, rfl, hD9, by rw [refs_len]; exact ixN_of hi1, ?_⟩
        rw [refs_set]
        refine ⟨_, _, rfl, _, rfl, _, rfl, D, _, _, i2, rfl, rfl, upd_same, by rw [refs_len]; exact ixN_of hi2, rfl, ?_⟩
        rw [refs_set]
        have nn : ¬ i1 = i2 := ne
        have nn2 : ¬ i2 = i1 := fun z => ne z.symm
        have old : ∀ i, i < n → LineQ (upd (upd H9 D (.lst (refs n (ex R i1 (R i2))))) D (.lst (refs n (ex (ex R i1 (R i2)) i2 (R i1))))) (R i) n (A' i) (U i) := fun i hi => ((sq.l.r i hi).other hD9 (sq.na i hi).2.2).other (xs := refs n (ex R i1 (R i2))) upd_same (sq.na i hi).2.2
        refine ⟨_, _, _, _, ex (ex R i1 (R i2)) i2 (R i1), ex (ex A' i1 (A' i2)) i2 (A' i1), ex (ex U i1 (U i2)) i2 (U i1), M, rfl, (f9.other Da Dc).other Da Dc, fun b o e ne => by rw [upd_ne (ne_of_none e nD), upd_ne (ne_of_none e nD)]; exact b59 b o e ne, ⟨upd_same, fun i hi => ?_⟩, fun i hi => ?_,
          sq.cf.swap hi1 hi2 (fun j _ => by rw [ex_ne _ _ nn, ex_same]) (fun j _ => by rw [ex_same]) (fun i _ n1 n2 j _ => by rw [ex_ne _ _ n2, ex_ne _ _ n1]), sq.rf.swap hi1 hi2 nn (fun j _ => by rw [ex_ne _ _ nn, ex_same]) (fun j _ => by rw [ex_same]) (fun i _ n1 n2 j _ => by rw [ex_ne _ _ n2, ex_ne _ _ n1]),
          sq.M0, sq.Mb.up (by omega), fun i hi j hj => ?_⟩
        · by_cases c2 : i = i2
          · rw [c2, ex_same, ex_same, ex_same]
            exact old i1 hi1
          · rw [ex_ne _ _ c2, ex_ne _ _ c2, ex_ne _ _ c2]
            by_cases c1 : i = i1
            · rw [c1, ex_same, ex_same, ex_same]
              exact old i2 hi2
            · rw [ex_ne _ _ c1, ex_ne _ _ c1, ex_ne _ _ c1]
              exact old i hi
        · by_cases c2 : i = i2
          · rw [c2, ex_same]
            exact sq.na i1 hi1
          · rw [ex_ne _ _ c2]
            by_cases c1 : i = i1
            · rw [c1, ex_same]
              exact sq.na i2 hi2
            · rw [ex_ne _ _ c1]
              exact sq.na i hi
        · by_cases c2 : i = i2
          · rw [c2, ex_same]
            exact (sq.ov i1 hi1 j hj).up (by omega)
          · rw [ex_ne _ _ c2]
            by_cases c1 : i = i1
            · rw [c1, ex_same]
              exact (sq.ov i2 hi2 j hj).up (by omega)
            · rw [ex_ne _ _ c1]
              exact (sq.ov i hi j hj).up (by omega)
      · refine ⟨_, rfl, _, rfl, D, _, _, _, rfl, rfl, SqL.of hD8, at_of rfl (refs_get hi1), _, rfl, a, cl, 0, rfl, f8, by decide, by decide, fun rq q H9 f9 b9 nr hR ok => ?_⟩
        have ok : Bt 4 q.num ∧ Bt 4 (q.den : Int) := ok
        have sq := sq.but b9 ha8 Da
        have b59 := b58.trans b9
        have hD9 := sq.l.hq
        have r1 := sq.l.r i1 hi1
        have r2 := sq.l.r i2 hi2
        have tlt : t < 13 := by omega
        refine ⟨_, rfl, _, rfl, D, _, _, _, rfl, rfl, SqL.of hD9, at_of rfl (refs_get hi2), ?_⟩
        refine ⟨R i1, rq, R i2, n, A' i1, A' i2, U i1, U i2, q, rfl, r1, hR, r2, by omega, ⟨ok.1.hg (by decide), ok.2.hg (by decide)⟩, fun j hj => ⟨ovHg (sq.ov i1 hi1 j hj) sq.M0 sq.Mb (by omega) (by omega), ovHg (sq.ov i2 hi2 j hj) sq.M0 sq.Mb (by omega) (by omega),
          ovHg ((VM.Ov.self ok.1).mul (sq.ov i2 hi2 j hj)) (Int.mul_ne_zero (den_ne q) sq.M0) (ok.2.mul sq.Mb) (by omega) (by omega)⟩, fun x S H10 s10 nx hx => ?_⟩
        obtain ⟨xs9, ha9⟩ := f9.lst
        obtain ⟨ys9, hc9⟩ := f9.lst2
        have hD10 := s10 _ _ hD9
        have xa : x ≠ a := (ne_of_none ha9 nx).symm
        have xc : x ≠ cl := (ne_of_none hc9 nx).symm
        have xD : x ≠ D := (ne_of_none hD9 nx).symm
        have f10 := f9.same s10
        refine ⟨_, rfl, _, rfl, D, _, _, i1, rfl, rfl, hD10, by rw [refs_len]; exact ixN_of hi1, ?_⟩
        rw [refs_set]
        have nn : ¬ i1 = i2 := ne
        refine ⟨_, _, _, _, ex R i1 x, ex A' i1 S, ex U i1 (fun j => U i1 j + q * U i2 j), M * (q.den : Int), rfl, f10.other Da Dc, fun b o e ne => by rw [upd_ne (ne_of_none e nD)]; exact s10 _ _ (b59 b o e ne), ⟨upd_same, fun i hi => ?_⟩, fun i hi => ?_,
          sq.cf.add (c := q) hi1 hi2 nn (fun j _ => by rw [ex_same]) (fun i _ n1 j _ => by rw [ex_ne _ _ n1]), sq.rf.add (c := q) hi1 hi2 nn (fun j _ => by rw [ex_same]) (fun i _ n1 j _ => by rw [ex_ne _ _ n1]),
          Int.mul_ne_zero sq.M0 (den_ne q), (sq.Mb.mul ok.2).up (by omega), fun i hi j hj => ?_⟩
        · by_cases c1 : i = i1
          · rw [c1, ex_same, ex_same, ex_same]
            exact hx.other hD10 xD
          · rw [ex_ne _ _ c1, ex_ne _ _ c1, ex_ne _ _ c1]
            exact (LineAt.same (sq.l.r i hi) s10).other hD10 (sq.na i hi).2.2
        · by_cases c1 : i = i1
          · rw [c1, ex_same]
            exact ⟨xa, xc, xD⟩
          · rw [ex_ne _ _ c1]
            exact sq.na i hi
        · by_cases c1 : i = i1
          · rw [c1, ex_same]
            exact (((sq.ov i1 hi1 j hj).lift ok.2).add (((VM.Ov.self ok.1).mul (sq.ov i2 hi2 j hj)).comm.up (by omega))).up (by omega)
          · rw [ex_ne _ _ c1]
            exact ((sq.ov i hi j hj).lift ok.2).up (by omega)
    · rintro σ H5 ⟨o3, o5, o6, o7, R, A', U, M, rfl, f5, b5, sq⟩
      exact ⟨_, rfl, kk D R A' U M H5 f5 b5 nD (sq.up (by omega) (by omega))⟩
end
end RX

set_option Elab.async false
set_option maxRecDepth 100000
namespace RX
open PySem L2 VM
open RQ (Hg Bt)
/-! ### a dependent row; tables of Ratios; tables that are the same -/
abbrev sDep : Stmt := topS 35
abbrev sRatT : Stmt := topS 29
abbrev sSameTab : Stmt := topS 27
def spDep : Sp := fun vs H Q _ => ∃ (a cl q : Addr) (n m t : Nat) (R : Nat → Addr) (A : Nat → Nat → Addr) (U : Nat → Nat → Rat) (M : Int), vs = [.ref a, .ref q] ∧ FeedAt H a cl ∧ q ≠ a ∧ Sq H q a cl n R A U M m t ∧ 0 < n ∧ n ≤ 6 ∧ m ≤ 1000 ∧ t ≤ 1000 ∧
  ∀ (r : Addr) (R' : Nat → Addr) (A' : Nat → Nat → Addr) (U' : Nat → Nat → Rat) (M' : Int) (x : Nat → Rat) (i0 : Nat) (H' : Hp), FeedAt H' a cl → But a H H' → H r = none → LinesQ H' r n n R' A' U' → (∀ j, j < n → dot x (fun i => U' i j) n = 0) → i0 < n → x i0 ≠ 0 → M' ≠ 0 → Bt (m + 4 * n) M' →
    (∀ i, i < n → ∀ j, j < n → Ov M' (t + 5 * n) (U' i j)) → Q (.ref r) H'
def spRatTQ (C : Addr) : Sp := fun vs H Q _ => ∃ (q : Addr) (h k : Nat) (R : Nat → Addr) (A : Nat → Nat → Addr) (U : Nat → Nat → Rat), vs = [.ref q] ∧ LinesQ H q h k R A U ∧ h ≤ 1000 ∧ k ≤ 1000 ∧
  ∀ (r : Addr) (S : Nat → Addr) (B : Nat → Nat → Addr) (H' : Hp), Same H H' → H r = none → TabQ C H' r h k S B U → Q (.ref r) H'
def spSameTab (C : Addr) : Sp := fun vs H Q _ => ∃ (p q : Addr) (h k : Nat) (S R : Nat → Addr) (B A : Nat → Nat → Addr) (n d : Nat → Nat → Int), vs = [.ref p, .ref q] ∧ TabAt C H p h k S B n d ∧ LinesAt H q h k R A n d ∧ h ≤ 1000 ∧ k ≤ 1000 ∧ Q (.bl true) H
theorem refs_mid {n k : Nat} (hk : k < n) (R : Nat → Addr) (x : Addr) : cutV (refs n R) none (some ((k : Nat) : Int)) ++ [.ref x] ++ cutV (refs n R) (some (((k : Nat) : Int) + 1)) none = refs n (ex R k x) := by
  have e1 : cutV (refs n R) (some (((k : Nat) : Int) + 1)) none = (refs n R).drop (k + 1) := by
    unfold cutV
    rw [show ((k : Nat) : Int) + 1 = ((k + 1 : Nat) : Int) by omega, HT.sIx_nat, HT.sIx_none, refs_len, Nat.min_eq_left (by omega)]
    exact List.take_of_length_le (by rw [List.length_drop, refs_len]; omega)
  have e2 : cutV (refs n R) none (some ((k : Nat) : Int)) = (refs n R).take k := by
    unfold cutV
    rw [HT.sIx_nat, HT.sIx_none, refs_len, Nat.min_eq_left (by omega), Nat.sub_zero, List.drop_zero]
  rw [e1, e2]
  have l1 : ((refs n R).take k).length = k := by rw [List.length_take, refs_len]; omega
  have l2 : ((refs n R).take k ++ [V.ref x]).length = k + 1 := by rw [List.length_append, l1]; rfl
  refine List.ext_getElem? fun i => ?_
  by_cases hi : i < n
  · rw [refs_get hi]
    by_cases h : i < k
    · rw [List.getElem?_append_left (by omega), List.getElem?_append_left (by omega), List.getElem?_take_of_lt h, refs_get (by omega), ex_ne _ _ (by omega)]
    · by_cases e : i = k
      · subst e
        rw [List.getElem?_append_left (by omega), List.getElem?_append_right (by omega), l1, Nat.sub_self, ex_same]
        rfl
      · rw [List.getElem?_append_right (by omega), l2, List.getElem?_drop, show k + 1 + (i - (k + 1)) = i by omega, refs_get hi, ex_ne _ _ e]
  · rw [List.getElem?_eq_none (by rw [List.length_append, l2, List.length_drop, refs_len]; omega), List.getElem?_eq_none (by rw [refs_len]; omega)]
section
variable {P : Program} {w : World} {K : PySem.W.Frag} {mg : Str → Option Value} {base : Heap}
theorem scDe : FnScope ["feed", "lines", "size", "at", "k", "line"] ["feed", "lines"] (defScope sDep) := ⟨rfl, rfl, rfl, by decide +kernel, rfl, by decide +kernel, by decide +kernel⟩
theorem scRT : FnScope ["lines", "line"] ["lines"] (defScope sRatT) := ⟨rfl, rfl, rfl, by decide +kernel, rfl, by decide +kernel, by decide +kernel⟩
theorem scST : FnScope ["actual", "due", "k"] ["actual", "due"] (defScope sSameTab) := ⟨rfl, rfl, rfl, by decide +kernel, rfl, by decide +kernel, by decide +kernel⟩
theorem ok_dep {f fD fA fN : Addr} {fd dD dA dN : FuncData} (F : Fun K "_law_dependent" "_law_dependent" sDep f fd) (T : TxtL mg) (cD : CalN P w K mg base "_law_draw" 1 ["feed", "limit"] spDraw fD dD)
    (cA : CalN P w K mg base "_law_added" 35 ["line", "number", "other"] spAdded fA dA) (cN : CalN P w K mg base "_law_number" 3 ["feed", "wide"] spNumQ fN dN) : FnOk P w K mg base CX0 36 f fd ["feed", "lines"] spDep := by
  refine F.ok scDe (fun vs H Q E h => ?_) (fun cdv Z outer s H vs Q E hr h => ?_)
  · obtain ⟨a, cl, q, n, m, t, R, A, U, M, rfl, _⟩ := h
    rfl
  · obtain ⟨a, cl, q, n, m, t, R, A, U, M, rfl, hF, qa, sq, n0, n6, m1, t1, kk⟩ := h
    have hr1 : Room 1 _ := hr.mono (by decide)
    have hr3 : Room 3 _ := hr.mono (by decide)
    have hr35 : Room 35 _ := hr.mono (by decide)
    refine ⟨_, pss_cons (ps_set (i := 2) scDe.nd rfl (.inl rfl) (pe_callB call_len_seq (by rfl) T.len PySem.boot_len (pa_cons (pv 1) pa_nil)))
      (pss_cons (ps_set (i := 3) scDe.nd rfl (.inl rfl) (pe_call cD.G hr1 rfl cD.m cD.kp cD.b .nil pass0 (pa_cons (pv 0) (pa_cons (pv 2) pa_nil))))
      (pss_cons (ps_setLc (i := 5) (own := [("k", 4)]) (g := gName 4) (tt := tYes) rfl scDe.nd rfl rfl (sw_true rfl rfl rfl (by decide +kernel)) (pi_range1 rfl T.range (pa_cons (pv 2) pa_nil)) (blkOk_by (N := ["feed", "lines", "size", "at", "k", "line"]) (sc := defScope sDep) (by decide +kernel))
          (fun _ _ _ _ _ => pg_name (i := 4) scDe.nd rfl (.inl rfl)) (fun _ _ _ _ _ => pts_nil) (fun _ _ _ _ _ => pe_tup (pa_cons pe_int (pa_cons pe_int pa_nil))))
      (pss_cons (ps_for PassesOwn.never rfl (pi_range1 rfl T.range (pa_cons (pv 2) pa_nil)) (pg_name (i := 4) scDe.nd rfl (.inl rfl))
        (pss_one (ps_if (pt_cmpR op_ne (pv 4) (pv 3) (nomark _)) (pss_one (ps_set (i := 5) scDe.nd rfl (.inl rfl) (pe_call cA.G hr35 rfl cA.m cA.kp cA.b .nil pass0 (pa_cons (pv 5) (pa_cons (pe_call cN.G hr3 rfl cN.m cN.kp cN.b .nil pass0 (pa_cons (pv 0) (pa_cons pe_int pa_nil))) (pa_cons (pe_ix ix_list (pv 1) (pv 4) (fun _ _ => rfl)) pa_nil)))))) pss_nil)))
      (pss_one (ps_ret (pe_op op_cat (pe_op op_cat (pe_slice sl_list (pv 1) po_none (po_some (pv 3))) (pe_lst (pa_cons (pv 5) pa_nil))) (pe_slice sl_list (pv 1) (po_some (pe_op op_add (pv 3) pe_int)) po_none))))))), ?_⟩
    have hq0 := sq.l.hq
    refine ⟨_, rfl, q, _, rfl, .inl (SqL.of hq0), ?_⟩
    rw [refs_len]
    refine ⟨_, rfl, _, rfl, a, cl, _, rfl, hF, by omega, by omega, fun x H1 x0 x1 f1 b1 => ?_⟩
    obtain ⟨xsa, ha0⟩ := hF.lst
    obtain ⟨at0, rfl, hat⟩ : ∃ i : Nat, x = (i : Int) ∧ i < n := ⟨x.toNat, by omega, by omega⟩
    have sq1 := sq.but b1 ha0 qa
    refine ⟨_, rfl, _, rfl, by omega, by omega, fun D nD => ?_⟩
    obtain ⟨xs1, ha1⟩ := f1.lst
    obtain ⟨ys1, hc1⟩ := f1.lst2
    refine lc_range (lo := 0) (n := n) (fun j H3 => ∃ S2, Built (fun H _ x => PrQ H x 0) H1 D j S2 H3) ⟨_, built0 nD⟩ ?_ ?_
    · rintro j H3 hj ⟨S2, Bu⟩
      refine ⟨rfl, ?_⟩
      refine ⟨(by show 2 ≤ sizeLine; decide), fun t0 nt => ?_⟩
      have s3 : Same H3 (upd H3 t0 (.tup [.int 0, .int 1])) := Same.upd nt
      exact ⟨_, s3 _ _ Bu.hD, by rw [refs_len]; exact small1000 (by omega), _, Bu.step (x := t0) (stays_pr (u := fun _ => 0)) nD s3 upd_same⟩
    rintro H2 ⟨S2, Bu⟩
    have f2 := f1.same Bu.s
    have Da : D ≠ a := (ne_of_none ha1 nD).symm
    refine ⟨_, rfl, _, rfl, by omega, by omega, for_range (n := n) (fun k σ H3 => ∃ o4 L S v cs M', σ = [some (.ref a), some (.ref q), some (.int (n : Nat)), some (.int (at0 : Nat)), o4, some (.ref L)] ∧ FeedAt H3 a cl ∧ But a H1 H3 ∧ LineQ H3 L n S v ∧ L ≠ a ∧ H1 L = none ∧ (∀ j, j < n → v j = dot cs (fun i => U i j) k) ∧ (at0 < k → cs at0 = 0) ∧
        M' ≠ 0 ∧ Bt (m + 4 * k) M' ∧ (∀ i, i < n → ∀ j, j < n → Ov M' (t + 4 * k) (U i j)) ∧ ∀ j, j < n → Ov M' (t + 5 * k) (v j))
      ⟨_, D, S2, fun _ => 0, fun _ => 0, M, rfl, f2, Same.but Bu.s, ⟨Bu.hD, Bu.pr⟩, Da, nD, fun j hj => rfl, fun z => absurd z (by omega), sq.M0, sq.Mb, sq.ov, fun j hj => VM.Ov.zero _ _⟩ ?_ ?_⟩
    · rintro k σ H3 hk ⟨o4, L, S, v, cs, M', rfl, f3, b3, hL, La, nL, hv, hc, M0, Mb, ov, ovv⟩
      refine ⟨_, rfl, _, rfl, rfl, _, rfl, ?_⟩
      obtain ⟨xs3, ha3⟩ := f3.lst
      refine ite2 (fun z => ?_) (fun z => ?_)
      · have ka : k ≠ at0 := fun e => by
          subst e
          rw [show (0 : Int) + (k : Nat) = (k : Nat) by omega, decide_eq_true rfl] at z
          cases z
        refine ⟨_, rfl, _, rfl, a, cl, 0, rfl, f3, by decide, by decide, fun rq u H4 f4 b4 nr hR ok => ?_⟩
        have ok : Bt 4 u.num ∧ Bt 4 (u.den : Int) := ok
        have sq4 := sq1.but (b3.trans b4) ha1 qa
        have hL4 := LineAt.but hL b4 ha3 La
        refine ⟨_, rfl, _, rfl, q, _, _, _, rfl, rfl, SqL.of sq4.l.hq, at_of (Int.zero_add _) (refs_get hk), ?_⟩
        have o1 : ∀ j, j < n → Ov ((u.den : Int) * M') (4 + (t + 4 * k)) (u * U k j) := fun j hj => (VM.Ov.self ok.1).mul (ov k hk j hj)
        refine ⟨L, rq, R k, n, S, A k, v, U k, u, rfl, hL4, hR, sq4.l.r k hk, by omega, ⟨ok.1.hg (by decide), ok.2.hg (by decide)⟩, fun j hj => ⟨ovHg (ovv j hj) M0 Mb (by omega) (by omega), ovHg (ov k hk j hj) M0 Mb (by omega) (by omega), ovHg (o1 j hj) (Int.mul_ne_zero (den_ne u) M0) (ok.2.mul Mb) (by omega) (by omega)⟩, fun x S5 H5 s5 nx hx => ?_⟩
        obtain ⟨xs4, ha4⟩ := f4.lst
        refine ⟨_, x, S5, _, ex cs k u, M' * (u.den : Int), rfl, f4.same s5, (b3.trans b4).trans (Same.but s5), hx, (ne_of_none ha4 nx).symm, (b3.trans b4).free nx f4, fun j hj => ?_, fun z => ?_, Int.mul_ne_zero M0 (den_ne u), (Mb.mul ok.2).up (by omega), fun i hi j hj => ((ov i hi j hj).lift ok.2).up (by omega), fun j hj => ?_⟩
        · show v j + u * U k j = dot (ex cs k u) (fun i => U i j) k + ex cs k u k * U k j
          rw [ex_same, hv j hj]
          congr 1
          exact dot_congr (fun i hi => (ex_ne _ _ (by omega)).symm) fun _ _ => rfl
        · rw [ex_ne _ _ (fun e => ka e.symm)]
          exact hc (by omega)
        · exact (((ovv j hj).lift ok.2).up (T := t + 5 * k + 4) (by omega)).add ((o1 j hj).comm.up (by omega))
      · have ka : k = at0 := by
          refine Classical.byContradiction fun e => z ?_
          rw [decide_eq_false (fun y => e (by injection y; omega))]
          rfl
        refine ⟨_, L, S, v, ex cs k 0, M', rfl, f3, b3, hL, La, nL, fun j hj => ?_, fun _ => by rw [ka, ex_same], M0, Mb.up (by omega), fun i hi j hj => (ov i hi j hj).up (by omega), fun j hj => (ovv j hj).up (by omega)⟩
        show v j = dot (ex cs k 0) (fun i => U i j) k + ex cs k 0 k * U k j
        rw [ex_same, hv j hj, dot_congr (u := ex cs k 0) (u' := cs) (fun i hi => ex_ne _ _ (by omega)) fun _ _ => rfl]
        grind
    · rintro σ H3 ⟨o4, L, S, v, cs, M', rfl, f3, b3, hL, La, nL, hv, hc, M0, Mb, ov, ovv⟩
      have sq3 := sq1.but b3 ha1 qa
      have tot := refs_mid hat R L
      have lens : ∀ (x y : Option Int), (cutV (refs n R) x y).length ≤ n := fun x y => by
        unfold cutV
        rw [List.length_take, List.length_drop, refs_len]
        omega
      refine ⟨_, rfl, _, rfl, (at0 : Int), rfl, q, _, rfl, SqL.of sq3.l.hq, fun P1 n1 => ?_⟩
      have l1 := lens none (some (at0 : Int))
      have l2 := lens (some ((at0 : Int) + 1)) none
      generalize cutV (refs n R) none (some (at0 : Int)) = c1 at *
      have s4 : Same H3 (upd H3 P1 (.lst c1)) := Same.upd n1
      have h4 : upd H3 P1 (.lst c1) P1 = some (.lst c1) := upd_same
      generalize upd H3 P1 (.lst c1) = H4 at *
      refine ⟨_, rfl, (by show 1 ≤ sizeLine; decide), fun P2 n2 => ?_⟩
      have s5 : Same H4 (upd H4 P2 (.lst [.ref L])) := Same.upd n2
      have h5 : upd H4 P2 (.lst [.ref L]) P2 = some (.lst [.ref L]) := upd_same
      generalize upd H4 P2 (.lst [.ref L]) = H5 at *
      refine ⟨P1, P2, _, _, rfl, rfl, s5 _ _ h4, h5, (Nat.le_of_lt (small1000 (by show c1.length + 1 ≤ 1000; omega))), fun P3 n3 => ?_⟩
      have s6 : Same H5 (upd H5 P3 (.lst (c1 ++ [.ref L]))) := Same.upd n3
      have h6 : upd H5 P3 (.lst (c1 ++ [.ref L])) P3 = some (.lst (c1 ++ [.ref L])) := upd_same
      generalize upd H5 P3 (.lst (c1 ++ [.ref L])) = H6 at *
      have s36 := (s4.trans s5).trans s6
      refine ⟨_, rfl, _, rfl, _, _, rfl, rfl, (at0 : Int) + 1, rfl, q, _, rfl, SqL.of (s36 _ _ sq3.l.hq), fun P4 n4 => ?_⟩
      generalize cutV (refs n R) (some ((at0 : Int) + 1)) none = c2 at *
      have s7 : Same H6 (upd H6 P4 (.lst c2)) := Same.upd n4
      have h7 : upd H6 P4 (.lst c2) P4 = some (.lst c2) := upd_same
      generalize upd H6 P4 (.lst c2) = H7 at *
      have ln : (c1 ++ [V.ref L]).length = c1.length + 1 := by rw [List.length_append]; rfl
      refine ⟨P3, P4, _, _, rfl, rfl, s7 _ _ h6, h7, (Nat.le_of_lt (small1000 (by rw [ln]; omega))), fun P5 n5 => ?_⟩
      have s8 : Same H7 (upd H7 P5 (.lst (c1 ++ [.ref L] ++ c2))) := Same.upd n5
      have h8 : upd H7 P5 (.lst (c1 ++ [.ref L] ++ c2)) P5 = some (.lst (c1 ++ [.ref L] ++ c2)) := upd_same
      generalize upd H7 P5 (.lst (c1 ++ [.ref L] ++ c2)) = H8 at *
      have s38 := (s36.trans s7).trans s8
      refine kk P5 (ex R at0 L) (ex A at0 S) (ex U at0 v) M' (fun i => if i = at0 then -1 else cs i) at0 _ (f3.same s38) ((b1.trans b3).trans (Same.but s38)) ((b1.trans b3).free ((s36.trans s7).free n5) f3) ⟨by rw [h8, tot], fun i hi => ?_⟩
        (dep_sum hat (hc hat) hv (fun j _ => by rw [ex_same]) (fun i _ ne j _ => by rw [ex_ne _ _ ne])) hat (by rw [if_pos rfl]; decide) M0 Mb (fun i hi j hj => ?_)
      · by_cases e : i = at0
        · rw [e, ex_same, ex_same, ex_same]
          exact LineAt.same hL s38
        · rw [ex_ne _ _ e, ex_ne _ _ e, ex_ne _ _ e]
          exact LineAt.same (sq3.l.r i hi) s38
      · by_cases e : i = at0
        · rw [e, ex_same]
          exact ovv j hj
        · rw [ex_ne _ _ e]
          exact (ov i hi j hj).up (by omega)
theorem ok_sameTab {f fE C : Addr} {fd dE : FuncData} (F : Fun K "_law_same_table" "_law_same_table" sSameTab f fd) (T : TxtL mg) (TP : TxtP mg) (cE : CalN P w K mg base "_law_same_row" 3 ["actual", "due"] (spSameRow C) fE dE) :
    FnOk P w K mg base CX0 4 f fd ["actual", "due"] (spSameTab C) := by
  refine F.ok scST (fun vs H Q E h => ?_) (fun cdv A outer s H vs Q E hr h => ?_)
  · obtain ⟨p, q, h, k, S, R, B, A, n, d, rfl, _⟩ := h
    rfl
  · obtain ⟨p, q, h, k, S, R, B, A', n, d, rfl, hp, hq, hh, hk, kk⟩ := h
    refine ⟨_, pss_cons (ps_if (PW.pt (pw_or (pt_not (pt_val (pe_callB RZ.call_isTy (by rfl) T.isi (by decide +kernel) (pa_cons (pv 0) (pa_cons (pe_bltn (v := .ty "tuple") (by rfl) TP.tup (by decide +kernel) rfl) pa_nil)))))
        (pw_or1 (pt_cmpR op_ne (pe_callB call_len_seq (by rfl) T.len PySem.boot_len (pa_cons (pv 0) pa_nil)) (pe_callB call_len_seq (by rfl) T.len PySem.boot_len (pa_cons (pv 1) pa_nil)) (nomark _))))) (pss_one ps_never) pss_nil)
      (pss_cons (ps_for PassesOwn.never rfl (pi_range1 rfl T.range (pa_cons (pe_callB call_len_seq (by rfl) T.len PySem.boot_len (pa_cons (pv 1) pa_nil)) pa_nil)) (pg_name (i := 2) scST.nd rfl (.inl rfl))
        (pss_one (ps_if (pt_not (pt_val (pe_call cE.G hr rfl cE.m cE.kp cE.b .nil pass0 (pa_cons (pe_ix ix_tup (pv 0) (pv 2) (fun _ _ => rfl)) (pa_cons (pe_ix ix_list (pv 1) (pv 2) (fun _ _ => rfl)) pa_nil))))) (pss_one ps_never) pss_nil)))
      (pss_one (ps_ret pe_bl))), ?_⟩
    refine ⟨_, rfl, .ref p, "tuple", rfl, .tup hp.hp, true, rfl, ?_⟩
    refine iteF ?_
    refine ⟨_, rfl, p, _, rfl, .inr (SqT.of hp.hp), _, rfl, q, _, rfl, .inl (SqL.of hq.hq), rfl, _, rfl, ?_⟩
    refine iteNS (by rw [refs_len, refs_len]) ?_
    refine ⟨_, rfl, q, _, rfl, .inl (SqL.of hq.hq), _, rfl, by rw [refs_len]; omega, by rw [refs_len]; omega, for_range (n := (refs h R).length) (fun i σ H' => ∃ o, σ = [some (.ref p), some (.ref q), o] ∧ H' = H) ⟨_, rfl, rfl⟩ ?_ ?_⟩
    · rintro i σ H' hi ⟨o, rfl, rfl⟩
      rw [refs_len] at hi
      refine ⟨_, rfl, _, rfl, p, _, _, _, rfl, rfl, SqT.of hp.hp, at_of (Int.zero_add _) (refs_get hi), _, rfl, _, rfl, q, _, _, _, rfl, rfl, SqL.of hq.hq, at_of (Int.zero_add _) (refs_get hi), _, _, _, _, _, _, _, rfl, hp.r i hi, hq.r i hi, hk, true, rfl, ?_⟩
      exact iteF ⟨_, rfl, rfl⟩
    · rintro σ H' ⟨o, rfl, rfl⟩
      exact kk
theorem ok_ratT {f fS C : Addr} {fd dS : FuncData} (F : Fun K "_law_ratio_table" "_law_ratio_table" sRatT f fd) (T : TxtP mg) (cS : CalN P w K mg base "_law_ratios" 35 ["line"] (spRatsQ C) fS dS) :
    FnOk P w K mg base CX0 36 f fd ["lines"] (spRatTQ C) := by
  refine F.ok scRT (fun vs H Q E h => ?_) (fun cdv A outer s H vs Q E hr h => ?_)
  · obtain ⟨q, h, k, R, A, U, rfl, _⟩ := h
    rfl
  · obtain ⟨q, h, k, R, A', U, rfl, hq, hh, hk, kk⟩ := h
    refine ⟨_, pss_one (ps_ret (pe_callTy call_tuple_of (by rfl) T.tup (by decide +kernel) (pa_cons (pe_lc (own := [("line", 1)]) (g := gName 1) (tt := tYes) rfl scRT.nd (pi_list (pv 0)) (blkOk_by (N := ["lines", "line"]) (sc := defScope sRatT) (by decide +kernel))
        (fun _ _ _ _ _ => pg_name (i := 1) scRT.nd rfl (Or.inl rfl)) (fun _ _ _ _ _ => pts_nil) (fun _ _ _ _ _ => pe_call cS.G hr rfl cS.m cS.kp cS.b .nil pass0 (pa_cons (pv 1) pa_nil))) pa_nil))), ?_⟩
    refine ⟨_, rfl, q, rfl, ⟨_, SqL.of hq.hq⟩, fun D nD => ?_⟩
    refine lc_list (K := K) (a := q) (xs := refs h R) (fun i H2 => ∃ S, Built (fun H i x => ∃ a, RowQ C H x k a (U i)) H D i S H2) ⟨_, built0 nD⟩ (fun i H2 _ ⟨S, B⟩ => SqL.of (B.s _ _ hq.hq)) ?_ ?_
    · rintro i x H2 hi ⟨S, B⟩
      obtain ⟨hi', rfl⟩ := refs_lt hi
      clear hi
      have hi := hi'
      refine ⟨rfl, ?_⟩
      refine ⟨_, rfl, R i, k, A' i, _, rfl, (hq.r i hi).same B.s, hk, fun r S' H3 s3 nr hR => ?_⟩
      refine ⟨_, s3 _ _ B.hD, ?_, _, B.step (stays_row (n := fun i j => (U i j).num) (d := fun i j => ((U i j).den : Int))) nD s3 ⟨_, hR⟩⟩
      rw [refs_len]
      exact small1000 (by omega)
    · rintro H2 ⟨S, B⟩
      have B : Built _ H D (refs h R).length S H2 := B
      rw [refs_len] at B
      refine ⟨D, _, rfl, .inl ⟨SqL.of B.hD, fun r nr => ?_⟩⟩
      obtain ⟨A2, t⟩ := B.tab (n := fun i j => (U i j).num) (d := fun i j => ((U i j).den : Int)) nr
      exact kk r S A2 _ (B.s.trans (Same.upd nr)) (B.s.free nr) t
end
end RX

set_option Elab.async false
set_option maxRecDepth 100000
namespace RX
open PySem L2 VM
open RQ (Hg Bt)
/-! ### pairs of what came out, products -/
abbrev sPairs : Stmt := topS 36
abbrev sProd : Stmt := topS 31
theorem nz {x : Int} (z : (!decide (V.int x = V.int 0)) = true) : x ≠ 0 := fun e => by subst e; rw [decide_eq_true rfl] at z; cases z
theorem zz {x : Int} (z : ¬ (!decide (V.int x = V.int 0)) = true) : x = 0 := Decidable.byContradiction fun h => z (by rw [decide_eq_false (fun e => h (by injection e))]; rfl)
def prD (n d : Int) : PyData := .tuple [.int n, .int d]
def lineD (w : Nat) (u : Nat → Rat) : PyData := .list ((List.range w).map fun j => prD (u j).num ((u j).den : Int))
def linesD (h w : Nat) (U : Nat → Nat → Rat) : PyData := .list ((List.range h).map fun i => lineD w (U i))
theorem dp_pr {K : PySem.W.Frag} {H : Hp} {p : Addr} {n d : Int} (h : PairAt H p n d) : Dp K H (.ref p) (prD n d) := .tup (SqT.of h) (.cons (.int n) (.cons (.int d) .nil))
theorem dp_map {K : PySem.W.Frag} {H : Hp} {a : Nat → Addr} {f : Nat → PyData} : ∀ {l : List Nat}, (∀ i ∈ l, Dp K H (.ref (a i)) (f i)) → DpAll K H (l.map fun i => V.ref (a i)) (l.map f)
  | [], _ => .nil
  | i :: l, h => .cons (h i List.mem_cons_self) (dp_map fun j hj => h j (List.mem_cons_of_mem _ hj))
theorem dp_line {K : PySem.W.Frag} {H : Hp} {p : Addr} {w : Nat} {a : Nat → Addr} {u : Nat → Rat} (h : LineQ H p w a u) : Dp K H (.ref p) (lineD w u) :=
  .lst (SqL.of h.hq) (dp_map fun i hi => dp_pr (h.p i (List.mem_range.mp hi)))
theorem dp_lines {K : PySem.W.Frag} {H : Hp} {p : Addr} {h w : Nat} {R : Nat → Addr} {A : Nat → Nat → Addr} {U : Nat → Nat → Rat} (x : LinesQ H p h w R A U) : Dp K H (.ref p) (linesD h w U) :=
  .lst (SqL.of x.hq) (dp_map fun i hi => dp_line (x.r i (List.mem_range.mp hi)))
theorem lay_map {f : Nat → PyData} (h : ∀ i, (f i).canLay0 = true) : ∀ l : List Nat, PyData.canLayAll0 (l.map f) = true
  | [] => by simp [PyData.canLayAll0]
  | i :: l => by simp [PyData.canLayAll0, h i, lay_map h l]
theorem depth_map {f : Nat → PyData} {k : Nat} (h : ∀ i, (f i).depth ≤ k) : ∀ l : List Nat, PyData.depthAll (l.map f) ≤ k
  | [] => by simp [PyData.depthAll]
  | i :: l => by
    have h1 := h i
    have h2 := depth_map h l
    simp only [List.map_cons, PyData.depthAll]
    omega
theorem eqv_map {f : Nat → PyData} (h : ∀ i, PyData.eqv (f i) (f i) = true) : ∀ l : List Nat, PyData.eqvAll (l.map f) (l.map f) = true
  | [] => by simp [PyData.eqvAll]
  | i :: l => by simp [PyData.eqvAll, h i, eqv_map h l]
theorem prD_shaped (n d : Int) : (prD n d).canLay0 = true ∧ (prD n d).depth ≤ 1 ∧ PyData.eqv (prD n d) (prD n d) = true := by
  refine ⟨by simp [prD, PyData.canLay0, PyData.canLayAll0], by simp [prD, PyData.depth, PyData.depthAll], by simp [prD, PyData.eqv, PyData.eqvAll]⟩
theorem lineD_shaped (w : Nat) (u : Nat → Rat) : (lineD w u).canLay0 = true ∧ (lineD w u).depth ≤ 2 ∧ PyData.eqv (lineD w u) (lineD w u) = true := by
  refine ⟨?_, ?_, ?_⟩
  · unfold lineD
    simp only [PyData.canLay0]
    exact lay_map (fun i => (prD_shaped _ _).1) _
  · unfold lineD
    simp only [PyData.depth]
    have := depth_map (f := fun j => prD (u j).num ((u j).den : Int)) (k := 1) (fun i => (prD_shaped _ _).2.1) (List.range w)
    omega
  · unfold lineD
    simp only [PyData.eqv]
    exact eqv_map (f := fun j => prD (u j).num ((u j).den : Int)) (fun i => (prD_shaped _ _).2.2) _
theorem linesD_shaped (h w : Nat) (U : Nat → Nat → Rat) : SeqAt.shaped (linesD h w U) = true ∧ PyData.eqv (linesD h w U) (linesD h w U) = true := by
  refine ⟨?_, ?_⟩
  · show ((linesD h w U).canLay0 && decide ((linesD h w U).depth ≤ 64)) = true
    rw [Bool.and_eq_true]
    refine ⟨?_, decide_eq_true ?_⟩
    · unfold linesD
      simp only [PyData.canLay0]
      exact lay_map (fun i => (lineD_shaped _ _).1) _
    · unfold linesD
      simp only [PyData.depth]
      have := depth_map (f := fun i => lineD w (U i)) (k := 2) (fun i => (lineD_shaped _ _).2.1) (List.range h)
      omega
  · unfold linesD
    simp only [PyData.eqv]
    exact eqv_map (f := fun i => lineD w (U i)) (fun i => (lineD_shaped _ _).2.2) _
theorem prD_sh (n d : Int) : SeqAt.shaped (prD n d) = true := by
  show ((prD n d).canLay0 && decide ((prD n d).depth ≤ 64)) = true
  rw [Bool.and_eq_true]
  exact ⟨(prD_shaped n d).1, decide_eq_true (by have := (prD_shaped n d).2.1; omega)⟩
theorem linesD_congr {h w : Nat} {U V : Nat → Nat → Rat} (e : ∀ i j, i < h → j < w → U i j = V i j) : linesD h w U = linesD h w V := by
  unfold linesD lineD
  congr 1
  refine List.map_congr_left fun i hi => ?_
  congr 1
  refine List.map_congr_left fun j hj => ?_
  rw [e i j (List.mem_range.mp hi) (List.mem_range.mp hj)]
def spPairs (C : Addr) : Sp := fun vs H Q _ => ∃ (p : Addr) (n : Nat) (S : Nat → Addr) (B : Nat → Nat → Addr) (Z : Nat → Nat → Rat), vs = [.ref p, .int (n : Nat)] ∧ TabQ C H p n n S B Z ∧ n ≤ 1000 ∧
  ∀ (r : Addr) (S' : Nat → Addr) (B' : Nat → Nat → Addr) (H' : Hp), Same H H' → H r = none → LinesQ H' r n n S' B' Z → Q (.ref r) H'
def spProdQ : Sp := fun vs H Q _ => ∃ (p q : Addr) (h k w b1 b2 : Nat) (U R : Nat → Addr) (a A : Nat → Nat → Addr) (X Y : Nat → Nat → Rat), vs = [.ref p, .ref q, .int (w : Nat)] ∧ LinesQ H p h k U a X ∧ LinesQ H q k w R A Y ∧ h ≤ 1000 ∧ k ≤ 1000 ∧ w ≤ 1000 ∧
  (∀ i, i < h → ∀ j, j < k → Bt b1 (X i j).num ∧ Bt b1 ((X i j).den : Int)) ∧ (∀ i, i < k → ∀ j, j < w → Bt b2 (Y i j).num ∧ Bt b2 ((Y i j).den : Int)) ∧ (b1 + b2) * (k + 1) + k + 1 ≤ 60000000 ∧
  ∀ (r : Addr) (S : Nat → Addr) (B : Nat → Nat → Addr) (H' : Hp), Same H H' → H r = none → LinesQ H' r h w S B (fun i j => dot (X i) (fun t => Y t j) k) → Q (.ref r) H'
section
variable {P : Program} {w : World} {K : PySem.W.Frag} {mg : Str → Option Value} {base : Heap}
theorem scPs : FnScope ["actual", "size", "found", "line", "done", "one"] ["actual", "size"] (defScope sPairs) := ⟨rfl, rfl, rfl, by decide +kernel, rfl, by decide +kernel, by decide +kernel⟩
theorem scPr : FnScope ["one", "two", "width", "found", "line", "done", "place", "total", "k"] ["one", "two", "width"] (defScope sProd) := ⟨rfl, rfl, rfl, by decide +kernel, rfl, by decide +kernel, by decide +kernel⟩
theorem ok_pairs {f fI fP C : Addr} {fd dI dP : FuncData} (F : Fun K "_law_pairs" "_law_pairs" sPairs f fd) (T : TxtL mg) (TP : TxtP mg) (R : TxtR K mg C) (c : C8.InsC K C) (cI : CalN P w K mg base "_law_is_integer" 1 ["actual"] spIsInt fI dI) (cP : CalN P w K mg base "_law_pair" 33 ["above", "below"] spPairB fP dP) :
    FnOk P w K mg base CX0 34 f fd ["actual", "size"] (spPairs C) := by
  refine F.ok scPs (fun vs H Q E h => ?_) (fun cdv A outer s H vs Q E hr h => ?_)
  · obtain ⟨p, n, S, B, Z, rfl, _⟩ := h
    rfl
  · obtain ⟨p, n, S, B, Z, rfl, hp, n1, kk⟩ := h
    have hr1 : Room 1 _ := hr.mono (by decide)
    have hr33 : Room 33 _ := hr.mono (by decide)
    refine ⟨_, pss_cons (ps_if (PW.pt (pw_or (pt_not (pt_val (pe_callB RZ.call_isTy (by rfl) T.isi (by decide +kernel) (pa_cons (pv 0) (pa_cons (pe_bltn (v := .ty "tuple") (by rfl) TP.tup (by decide +kernel) rfl) pa_nil)))))
        (pw_or1 (pt_cmpR op_ne (pe_callB call_len_seq (by rfl) T.len PySem.boot_len (pa_cons (pv 0) pa_nil)) (pv 1) (nomark _))))) (pss_one ps_never) pss_nil)
      (pss_cons (ps_set (i := 2) scPs.nd rfl (.inl rfl) (pe_lst pa_nil))
      (pss_cons (ps_for PassesOwn.never rfl (pi_tup (pv 0)) (pg_name (i := 3) scPs.nd rfl (.inl rfl))
        (pss_cons (ps_if (PW.pt (pw_or (pt_not (pt_val (pe_callB RZ.call_isTy (by rfl) T.isi (by decide +kernel) (pa_cons (pv 3) (pa_cons (pe_bltn (v := .ty "tuple") (by rfl) TP.tup (by decide +kernel) rfl) pa_nil)))))
            (pw_or1 (pt_cmpR op_ne (pe_callB call_len_seq (by rfl) T.len PySem.boot_len (pa_cons (pv 3) pa_nil)) (pv 1) (nomark _))))) (pss_one ps_never) pss_nil)
        (pss_cons (ps_set (i := 4) scPs.nd rfl (.inl rfl) (pe_lst pa_nil))
        (pss_cons (ps_for PassesOwn.never rfl (pi_tup (pv 3)) (pg_name (i := 5) scPs.nd rfl (.inl rfl))
          (pss_cons (ps_if (PW.pt (pw_or (pt_not (pt_val (pe_callB (C8.call_isC c) (by rfl) T.isi (by decide +kernel) (pa_cons (pv 5) (pa_cons (pe_glob (v := .ref C) (by rfl) R.mgC rfl) pa_nil)))))
              (pw_or (pt_not (pt_val (pe_call cI.G hr1 rfl cI.m cI.kp cI.b .nil pass0 (pa_cons (pe_fld (pv 5) rfl) pa_nil)))) (pw_or1 (pt_not (pt_val (pe_call cI.G hr1 rfl cI.m cI.kp cI.b .nil pass0 (pa_cons (pe_fld (pv 5) rfl) pa_nil)))))))) (pss_one ps_never) pss_nil)
          (pss_cons (ps_if (PW.pt (pw_or (pt_cmpR op_lt (pe_fld (pv 5) rfl) pe_int (nomark _)) (pw_or1 (pt_cmpR (op_neD hr.units) (pe_call cP.G hr33 rfl cP.m cP.kp cP.b .nil pass0 (pa_cons (pe_fld (pv 5) rfl) (pa_cons (pe_fld (pv 5) rfl) pa_nil))) (pe_tup (pa_cons (pe_fld (pv 5) rfl) (pa_cons (pe_fld (pv 5) rfl) pa_nil))) (nomark _))))) (pss_one ps_never) pss_nil)
          (pss_one (ps_expr (pe_bm PySem.F.plainAttrs_list PySem.F.slot_list_append PySem.F.type_list_append mt_append (pv 4) (pa_cons (pe_tup (pa_cons (pe_fld (pv 5) rfl) (pa_cons (pe_fld (pv 5) rfl) pa_nil))) pa_nil)))))))
        (pss_one (ps_expr (pe_bm PySem.F.plainAttrs_list PySem.F.slot_list_append PySem.F.type_list_append mt_append (pv 2) (pa_cons (pv 4) pa_nil))))))))
      (pss_one (ps_ret (pv 2))))), ?_⟩
    refine ⟨_, rfl, .ref p, "tuple", rfl, .tup hp.hp, true, rfl, ?_⟩
    refine iteF ?_
    refine ⟨_, rfl, p, _, rfl, .inr (SqT.of hp.hp), _, rfl, rfl, _, rfl, ?_⟩
    refine iteNS (by rw [refs_len]) ?_
    refine ⟨(by show 0 ≤ sizeLine; decide), fun D nD => ?_⟩
    have s0 : Same H (upd H D (.lst [])) := Same.upd nD
    refine ⟨_, rfl, p, rfl, ⟨_, SqT.of (s0 _ _ hp.hp)⟩, for_tup (xs := refs n S) (fun i σ H2 => ∃ o3 o4 o5 S' B', σ = [some (.ref p), some (.int (n : Nat)), some (.ref D), o3, o4, o5] ∧ H2 D = some (.lst (refs i S')) ∧ (∀ j, j < i → LineQ H2 (S' j) n (B' j) (Z j) ∧ S' j ≠ D) ∧ Same H H2)
      ⟨_, _, _, fun _ => 0, fun _ _ => 0, rfl, upd_same, fun j hj => absurd hj (by omega), s0⟩ (fun i σ H2 _ ⟨_, _, _, _, _, _, _, _, s2⟩ => SqT.of (s2 _ _ hp.hp)) ?_ ?_⟩
    · rintro i x σ H1 hx ⟨o3, o4, o5, S', B', rfl, hD, hS, s1⟩
      obtain ⟨hi, rfl⟩ := refs_lt hx
      have row := (hp.r i hi).same s1
      refine ⟨_, rfl, .ref (S i), "tuple", rfl, .tup row.hp, true, rfl, ?_⟩
      refine iteF ?_
      refine ⟨_, rfl, S i, _, rfl, .inr (SqT.of row.hp), _, rfl, rfl, _, rfl, ?_⟩
      refine iteNS (by rw [refs_len]) ?_
      refine ⟨(by show 0 ≤ sizeLine; decide), fun G nG => ?_⟩
      have GD : G ≠ D := (ne_of_none hD nG).symm
      have sg : Same H1 (upd H1 G (.lst [])) := Same.upd nG
      refine ⟨_, rfl, S i, rfl, ⟨_, SqT.of (sg _ _ row.hp)⟩, for_tup (xs := refs n (B i)) (fun j σ H2 => ∃ o5 b, σ = [some (.ref p), some (.int (n : Nat)), some (.ref D), some (.ref (S i)), some (.ref G), o5] ∧ H2 G = some (.lst (refs j b)) ∧ (∀ t, t < j → PrQ H2 (b t) (Z i t)) ∧ Same H1 H2)
        ⟨_, fun _ => 0, rfl, upd_same, fun j hj => absurd hj (by omega), sg⟩ (fun j σ H2 _ ⟨_, _, _, _, _, s2⟩ => SqT.of (s2 _ _ row.hp)) ?_ ?_⟩
      · rintro j y σ H2 hy ⟨o5, b, rfl, hG, hb, s2⟩
        obtain ⟨hj, rfl⟩ := refs_lt hy
        obtain ⟨dx, h2⟩ := id ((row.r j hj).same s2)
        have zd := den_ne (Z i j)
        have zp : (0 : Int) < ((Z i j).den : Int) := by have := (Z i j).den_pos; omega
        refine ⟨_, rfl, B i j, dx, _, rfl, h2, true, rfl, ?_⟩
        refine iteF ?_
        refine ⟨_, rfl, B i j, C, dx, _, _, rfl, h2, R.cl, R.nT, rf_top _ _, _, rfl, true, rfl, ?_⟩
        refine iteF ?_
        refine ⟨_, rfl, B i j, C, dx, _, _, rfl, h2, R.cl, R.nB, rf_bot _ _, _, rfl, true, rfl, ?_⟩
        refine iteF ?_
        refine ⟨_, rfl, B i j, C, dx, _, _, rfl, h2, R.cl, R.nB, rf_bot _ _, _, _, rfl, rfl, _, rfl, ?_⟩
        refine iteF' (decide_eq_false (by omega)) ?_
        refine ⟨_, rfl, B i j, C, dx, _, _, rfl, h2, R.cl, R.nT, rf_top _ _, _, rfl, B i j, C, dx, _, _, rfl, h2, R.cl, R.nB, rf_bot _ _, ?_⟩
        refine ⟨_, _, rfl, zd, fun r H3 s3 nr hR => ?_⟩
        obtain ⟨q1, q2⟩ := RQ.low zd (RQ.nd (Z i j))
        rw [q1, q2] at hR
        have h3 := s3 _ _ h2
        refine ⟨_, rfl, B i j, C, dx, _, _, rfl, h3, R.cl, R.nT, rf_top _ _, _, rfl, B i j, C, dx, _, _, rfl, h3, R.cl, R.nB, rf_bot _ _, (by show 2 ≤ sizeLine; decide), fun Tn nT => ?_⟩
        have s4 : Same H3 (upd H3 Tn (.tup [.int (Z i j).num, .int ((Z i j).den : Int)])) := Same.upd nT
        have hT : PairAt (upd H3 Tn (.tup [.int (Z i j).num, .int ((Z i j).den : Int)])) Tn (Z i j).num ((Z i j).den : Int) := upd_same
        generalize upd H3 Tn (.tup [.int (Z i j).num, .int ((Z i j).den : Int)]) = H4 at *
        refine ⟨_, _, dp_pr (PairAt.same hR s4), dp_pr hT, prD_sh _ _, prD_sh _ _, _, rfl, ?_⟩
        refine iteF' (by rw [(prD_shaped _ _).2.2]; rfl) ?_
        have h4 := s4 _ _ h3
        have s24 := s3.trans s4
        have hG4 := s24 _ _ hG
        refine ⟨_, rfl, .inl ⟨rfl, _, SqL.of hG4⟩, _, rfl, B i j, C, dx, _, _, rfl, h4, R.cl, R.nT, rf_top _ _, _, rfl, B i j, C, dx, _, _, rfl, h4, R.cl, R.nB, rf_bot _ _, (by show 2 ≤ sizeLine; decide), fun Tm nM => ?_⟩
        have s5 : Same H4 (upd H4 Tm (.tup [.int (Z i j).num, .int ((Z i j).den : Int)])) := Same.upd nM
        have hM : PairAt (upd H4 Tm (.tup [.int (Z i j).num, .int ((Z i j).den : Int)])) Tm (Z i j).num ((Z i j).den : Int) := upd_same
        generalize upd H4 Tm (.tup [.int (Z i j).num, .int ((Z i j).den : Int)]) = H5 at *
        have hG5 := s5 _ _ hG4
        refine ⟨G, _, _, rfl, rfl, hG5, by rw [refs_len]; exact small1000 (by omega), _, ext b j Tm, rfl, by rw [upd_same, refs_ext], fun t ht => ?_, fun c o e => by rw [upd_ne (ne_of_none e nG)]; exact ((s2.trans s24).trans s5) _ _ e⟩
        by_cases e : t = j
        · subst e; rw [ext_same]
          exact hM.other (hM.ne hG5)
        · rw [ext_lt b Tm (by omega)]
          have q := ((hb t (by omega)).same s24).same s5
          exact q.other (q.ne hG5)
      · rintro σ H2 ⟨o5, b, rfl, hG, hb, s2⟩
        rw [refs_len] at hG hb
        have hD2 := s2 _ _ hD
        refine ⟨_, rfl, .inl ⟨rfl, _, SqL.of hD2⟩, _, rfl, D, _, _, rfl, rfl, hD2, by rw [refs_len]; exact small1000 (by omega), _, _, _, ext S' i G, ext B' i b, rfl, by rw [upd_same, refs_ext], fun t ht => ?_, fun c o e => by rw [upd_ne (ne_of_none e nD)]; exact (s1.trans s2) _ _ e⟩
        by_cases e : t = i
        · subst e; rw [ext_same, ext_same]
          exact ⟨LineAt.other ⟨hG, hb⟩ hD2 GD, GD⟩
        · rw [ext_lt S' G (by omega), ext_lt B' b (by omega)]
          obtain ⟨q1, q2⟩ := hS t (by omega)
          exact ⟨(LineAt.same q1 s2).other hD2 q2, q2⟩
    · rintro σ H2 ⟨o3, o4, o5, S', B', rfl, hD, hS, s2⟩
      rw [refs_len] at hD hS
      exact ⟨_, rfl, kk D S' B' H2 s2 nD ⟨hD, fun i hi => (hS i hi).1⟩⟩
end
end RX

set_option Elab.async false
set_option maxRecDepth 100000
namespace RX
open PySem L2 VM
open RQ (Hg Bt)
section
variable {P : Program} {w : World} {K : PySem.W.Frag} {mg : Str → Option Value} {base : Heap}
theorem ok_prodQ {f fS fB : Addr} {fd dS dB : FuncData} (F : Fun K "_law_product" "_law_product" sProd f fd) (T : TxtL mg) (cS : CalN P w K mg base "_law_sum" 34 ["one", "two"] spSumQ fS dS) (cB : CalN P w K mg base "_law_by" 34 ["one", "two"] spByQ fB dB) :
    FnOk P w K mg base CX0 35 f fd ["one", "two", "width"] spProdQ := by
  refine F.ok scPr (fun vs H Q E h => ?_) (fun cdv A outer s H vs Q E hr h => ?_)
  · obtain ⟨p, q, h, k, w, b1, b2, U, R, a, A, X, Y, rfl, _⟩ := h
    rfl
  · obtain ⟨p, q, h, k, ww, b1, b2, U, R, a, A', X, Y, rfl, hp, hq, hh, hk, hw, gX, gY, hb, kk⟩ := h
    have hb12 : b1 + b2 ≤ 60000000 := by
      have : (b1 + b2) * 1 ≤ (b1 + b2) * (k + 1) := Nat.mul_le_mul_left _ (by omega)
      omega
    refine ⟨_, pss_cons (ps_set (i := 3) scPr.nd rfl (.inl rfl) (pe_lst pa_nil))
      (pss_cons (ps_for PassesOwn.never rfl (pi_list (pv 0)) (pg_name (i := 4) scPr.nd rfl (.inl rfl))
        (pss_cons (ps_set (i := 5) scPr.nd rfl (.inl rfl) (pe_lst pa_nil))
        (pss_cons (ps_for PassesOwn.never rfl (pi_range1 rfl T.range (pa_cons (pv 2) pa_nil)) (pg_name (i := 6) scPr.nd rfl (.inl rfl))
          (pss_cons (ps_set (i := 7) scPr.nd rfl (.inl rfl) (pe_tup (pa_cons pe_int (pa_cons pe_int pa_nil))))
          (pss_cons (ps_for PassesOwn.never rfl (pi_range1 rfl T.range (pa_cons (pe_callB call_len_seq (by rfl) T.len PySem.boot_len (pa_cons (pv 4) pa_nil)) pa_nil)) (pg_name (i := 8) scPr.nd rfl (.inl rfl))
            (pss_one (ps_if (PW.pt (pw_and (pt_cmpR op_ne (pe_ix ix_tup (pe_ix ix_list (pv 4) (pv 8) (fun _ _ => rfl)) pe_int (fun _ _ => rfl)) pe_int (nomark _))
                (pw_and1 (pt_cmpR op_ne (pe_ix ix_tup (pe_ix ix_list (pe_ix ix_list (pv 1) (pv 8) (fun _ _ => rfl)) (pv 6) (fun _ _ => rfl)) pe_int (fun _ _ => rfl)) pe_int (nomark _)))))
              (pss_one (ps_set (i := 7) scPr.nd rfl (.inl rfl) (pe_call cS.G hr rfl cS.m cS.kp cS.b .nil pass0 (pa_cons (pv 7) (pa_cons (pe_call cB.G hr rfl cB.m cB.kp cB.b .nil pass0 (pa_cons (pe_ix ix_list (pv 4) (pv 8) (fun _ _ => rfl)) (pa_cons (pe_ix ix_list (pe_ix ix_list (pv 1) (pv 8) (fun _ _ => rfl)) (pv 6) (fun _ _ => rfl)) pa_nil))) pa_nil)))))
              pss_nil)))
          (pss_one (ps_expr (pe_bm PySem.F.plainAttrs_list PySem.F.slot_list_append PySem.F.type_list_append mt_append (pv 5) (pa_cons (pv 7) pa_nil)))))))
        (pss_one (ps_expr (pe_bm PySem.F.plainAttrs_list PySem.F.slot_list_append PySem.F.type_list_append mt_append (pv 3) (pa_cons (pv 5) pa_nil)))))))
      (pss_one (ps_ret (pv 3)))), ?_⟩
    refine ⟨(by show 0 ≤ sizeLine; decide), fun D nD => ?_⟩
    have s0 : Same H (upd H D (.lst [])) := Same.upd nD
    refine ⟨_, rfl, p, rfl, ⟨_, SqL.of (s0 _ _ hp.hq)⟩, for_list (xs := refs h U) (fun i σ H2 => ∃ o4 o5 o6 o7 o8 S B, σ = [some (.ref p), some (.ref q), some (.int (ww : Nat)), some (.ref D), o4, o5, o6, o7, o8] ∧ H2 D = some (.lst (refs i S)) ∧
        (∀ j, j < i → LineQ H2 (S j) ww (B j) (fun t => dot (X j) (fun s => Y s t) k) ∧ S j ≠ D) ∧ Same H H2)
      ⟨_, _, _, _, _, fun _ => 0, fun _ _ => 0, rfl, upd_same, fun j hj => absurd hj (by omega), s0⟩ (fun i σ H2 _ ⟨_, _, _, _, _, _, _, _, _, _, s2⟩ => SqL.of (s2 _ _ hp.hq)) ?_ ?_⟩
    · rintro i x σ H1 hx ⟨o4, o5, o6, o7, o8, S, B, rfl, hD, hS, s1⟩
      obtain ⟨hi, rfl⟩ := refs_lt hx
      have hline := (hp.r i hi).same s1
      have hq1 := hq.same s1
      refine ⟨(by show 0 ≤ sizeLine; decide), fun G nG => ?_⟩
      have GD : G ≠ D := (ne_of_none hD nG).symm
      refine ⟨_, rfl, _, rfl, by omega, by omega, for_range (n := ww) (fun j σ H2 => ∃ o6 o7 o8 b, σ = [some (.ref p), some (.ref q), some (.int (ww : Nat)), some (.ref D), some (.ref (U i)), some (.ref G), o6, o7, o8] ∧ H2 G = some (.lst (refs j b)) ∧
          (∀ t, t < j → PrQ H2 (b t) (dot (X i) (fun s => Y s t) k)) ∧ Same H1 H2)
        ⟨_, _, _, fun _ => 0, rfl, upd_same, fun j hj => absurd hj (by omega), Same.upd nG⟩ ?_ ?_⟩
      · rintro j σ H2 hj ⟨o6, o7, o8, b, rfl, hG, hb', s2⟩
        refine ⟨(by show 2 ≤ sizeLine; decide), fun t0 n0 => ?_⟩
        have s3 : Same H2 (upd H2 t0 (.tup [.int 0, .int 1])) := Same.upd n0
        have hl3 := (hline.same s2).same s3
        refine ⟨_, rfl, U i, _, rfl, .inl (SqL.of hl3.hq), _, rfl, by rw [refs_len]; omega, by rw [refs_len]; omega, for_range (n := (refs k (a i)).length) (fun t σ H4 => ∃ o8 r, σ = [some (.ref p), some (.ref q), some (.int (ww : Nat)), some (.ref D), some (.ref (U i)), some (.ref G), some (.int (0 + (j : Nat))), some (.ref r), o8] ∧
            PrQ H4 r (dot (X i) (fun s => Y s j) t) ∧ Same H2 H4) ⟨_, t0, rfl, upd_same, s3⟩ ?_ ?_⟩
        · rintro t σ H4 ht ⟨o8, r, rfl, hR, s4⟩
          rw [refs_len] at ht
          have hl4 := (hline.same s2).same s4
          have hq4 := (hq1.same s2).same s4
          have hr4 := hq4.r t ht
          have pa := hl4.p t ht
          have pb := hr4.p j hj
          obtain ⟨ga1, ga2⟩ := gX i hi t ht
          obtain ⟨gb1, gb2⟩ := gY t ht j hj
          have e1 : dot (X i) (fun s => Y s j) (t + 1) = dot (X i) (fun s => Y s j) t + X i t * Y t j := rfl
          refine ⟨_, rfl, _, rfl, U i, _, _, _, rfl, rfl, SqL.of hl4.hq, at_of (Int.zero_add _) (refs_get ht), a i t, _, 0, _, rfl, rfl, pa.t, rfl, rfl, _, rfl, ?_⟩
          refine ite2 (fun z1 => ?_) (fun z1 => ?_)
          · refine ⟨_, rfl, _, rfl, q, _, _, _, rfl, rfl, SqL.of hq4.hq, at_of (Int.zero_add _) (refs_get ht), _, rfl, R t, _, _, _, rfl, rfl, SqL.of hr4.hq, at_of (Int.zero_add _) (refs_get hj), A' t j, _, 0, _, rfl, rfl, pb.t, rfl, rfl, _, rfl, ?_⟩
            refine ite2 (fun z2 => ?_) (fun z2 => ?_)
            · refine ⟨_, rfl, _, rfl, _, rfl, U i, _, _, _, rfl, rfl, SqL.of hl4.hq, at_of (Int.zero_add _) (refs_get ht), _, rfl, _, rfl, q, _, _, _, rfl, rfl, SqL.of hq4.hq, at_of (Int.zero_add _) (refs_get ht), _, rfl, R t, _, _, _, rfl, rfl, SqL.of hr4.hq, at_of (Int.zero_add _) (refs_get hj), ?_⟩
              refine ⟨_, _, X i t, Y t j, rfl, pa, pb, ⟨ga1.hg (by omega), ga2.hg (by omega)⟩, ⟨gb1.hg (by omega), gb2.hg (by omega)⟩, fun r5 H5 s5 n5 h5 => ?_⟩
              obtain ⟨M, M0, Mb, ov⟩ := dot_ov (u := X i) (y := fun s => Y s j) (p := b1) (q := b2) (k := t) fun s hs => ⟨gX i hi s (by omega), gY s (by omega) j hj⟩
              have mono : (b1 + b2) * (t + 1) ≤ (b1 + b2) * (k + 1) := Nat.mul_le_mul_left _ (by omega)
              have mono2 : (b1 + b2) * t ≤ (b1 + b2) * (k + 1) := Nat.mul_le_mul_left _ (by omega)
              refine ⟨_, _, _, _, rfl, hR.same s5, h5, ovHg ov M0 Mb (by omega) (by omega), ovHg ((VM.Ov.self ga1).mul (VM.Ov.self gb1)) (Int.mul_ne_zero (den_ne _) (den_ne _)) (ga2.mul gb2) (by omega) (by omega), fun r6 H6 s6 n6 h6 => ?_⟩
              refine ⟨_, r6, rfl, ?_, (s4.trans s5).trans s6⟩
              rw [e1]
              exact h6
            · have z2 := RQ.num0.mp (zz z2)
              refine ⟨_, r, rfl, ?_, s4⟩
              rw [e1, z2]
              have : dot (X i) (fun s => Y s j) t + X i t * 0 = dot (X i) (fun s => Y s j) t := by grind
              rw [this]
              exact hR
          · have z1 := RQ.num0.mp (zz z1)
            refine ⟨_, r, rfl, ?_, s4⟩
            rw [e1, z1]
            have : dot (X i) (fun s => Y s j) t + 0 * Y t j = dot (X i) (fun s => Y s j) t := by grind
            rw [this]
            exact hR
        · rintro σ H4 ⟨o8, r, rfl, hR, s4⟩
          rw [refs_len] at hR
          have hG4 := s4 _ _ hG
          refine ⟨_, rfl, .inl ⟨rfl, _, SqL.of hG4⟩, _, rfl, G, _, _, rfl, rfl, hG4, by rw [refs_len]; exact small1000 (by omega), _, _, _, ext b j r, rfl, by rw [upd_same, refs_ext], fun t ht => ?_, fun c o e => by rw [upd_ne (ne_of_none e nG)]; exact (s2.trans s4) _ _ e⟩
          by_cases e : t = j
          · subst e; rw [ext_same]
            exact hR.other (hR.ne hG4)
          · rw [ext_lt b r (by omega)]
            have q := (hb' t (by omega)).same s4
            exact q.other (q.ne hG4)
      · rintro σ H2 ⟨o6, o7, o8, b, rfl, hG, hb', s2⟩
        have hD2 := s2 _ _ hD
        refine ⟨_, rfl, .inl ⟨rfl, _, SqL.of hD2⟩, _, rfl, D, _, _, rfl, rfl, hD2, by rw [refs_len]; exact small1000 (by omega), _, _, _, _, _, ext S i G, ext B i b, rfl, by rw [upd_same, refs_ext], fun t ht => ?_, fun c o e => by rw [upd_ne (ne_of_none e nD)]; exact (s1.trans s2) _ _ e⟩
        by_cases e : t = i
        · subst e; rw [ext_same, ext_same]
          exact ⟨LineAt.other ⟨hG, hb'⟩ hD2 GD, GD⟩
        · rw [ext_lt S G (by omega), ext_lt B b (by omega)]
          obtain ⟨q1, q2⟩ := hS t (by omega)
          exact ⟨(LineAt.same q1 s2).other hD2 q2, q2⟩
    · rintro σ H2 ⟨o4, o5, o6, o7, o8, S, B, rfl, hD, hS, s1⟩
      rw [refs_len] at hD hS
      exact ⟨_, rfl, kk D S B H2 s1 nD ⟨hD, fun i hi => (hS i hi).1⟩⟩
end
end RX

set_option Elab.async false
set_option maxRecDepth 100000
namespace RX
open PySem L2 VM
open RQ (Hg Bt)
abbrev sLaw : Stmt := topS 37
abbrev outLw : Scope := { kind := .function, names := [(".0", .local), ("k", .cell), ("range", .globalImplicit), ("size", .cell)], isGenerator := false, isCoroutine := false }
def spLaw (K : PySem.W.Frag) : Sp := fun vs H Q _ => ∃ (a : Addr) (ns : List Int), vs = [.ref a] ∧ SqL K H a (ns.map V.int) ∧ ns.length ≤ 63 ∧ ∀ H', Q (.bl true) H'
theorem RatAt.but {C : Addr} {H H' : Hp} {p F : Addr} {n d : Int} {xs : List V} (h : RatAt C H p n d) (b : But F H H') (hF : H F = some (.lst xs)) : RatAt C H' p n d := by
  have ne := h.ne hF
  obtain ⟨dx, e⟩ := h
  exact ⟨dx, b _ _ e ne⟩
theorem TabAt.but {C : Addr} {H H' : Hp} {p F : Addr} {h w : Nat} {R : Nat → Addr} {A : Nat → Nat → Addr} {N D : Nat → Nat → Int} {xs : List V} (x : TabAt C H p h w R A N D) (b : But F H H') (hF : H F = some (.lst xs)) : TabAt C H' p h w R A N D :=
  ⟨b _ _ x.hp (ne_of x.hp hF (by intro z; cases z)), fun i hi => ⟨b _ _ (x.r i hi).hp (ne_of (x.r i hi).hp hF (by intro z; cases z)), fun j hj => ((x.r i hi).r j hj).but b hF⟩⟩
section
variable {P : Program} {w : World} {K : PySem.W.Frag} {mg : Str → Option Value} {base : Heap}
theorem scLw : FnScope ["script", "feed", "wide", "size", "lines", "table", "unit_v", "turn", "found", "k", "place"] ["script"] (defScope sLaw) := ⟨rfl, rfl, rfl, by decide +kernel, rfl, by decide +kernel, by decide +kernel⟩
theorem ok_law {f fF fD fQ fR fI fP fX fY fS C : Addr} {fd dF dD dQ dR dI dP dX dY dS : FuncData} (F : Fun K "law" "law" sLaw f fd) (T : TxtL mg) (TP : TxtP mg)
    (cF : CalN P w K mg base "_law_feed" 1 ["script"] (spFeed K) fF dF) (cD : CalN P w K mg base "_law_draw" 1 ["feed", "limit"] spDraw fD dD) (cQ : CalN P w K mg base "_law_square" 36 ["feed", "size", "wide"] spSquare fQ dQ)
    (cR : CalN P w K mg base "_law_ratio_table" 36 ["lines"] (spRatTQ C) fR dR) (cI : CalN P w K mg base "inverse" 39 ["table"] (spInv C) fI dI) (cP : CalN P w K mg base "_law_pairs" 34 ["actual", "size"] (spPairs C) fP dP)
    (cX : CalN P w K mg base "_law_product" 35 ["one", "two", "width"] spProdQ fX dX) (cY : CalN P w K mg base "_law_dependent" 36 ["feed", "lines"] spDep fY dY) (cS : CalN P w K mg base "_law_same_table" 4 ["actual", "due"] (spSameTab C) fS dS) : FnOk P w K mg base CX0 40 f fd ["script"] (spLaw K) := by
  refine F.ok scLw (fun vs H Q E h => ?_) (fun cdv A outer s H vs Q E hr h => ?_)
  · obtain ⟨a, ns, rfl, _⟩ := h
    rfl
  · obtain ⟨a, ns, rfl, hS, hl, kk⟩ := h
    have hr1 : Room 1 _ := hr.mono (by decide)
    have hr4 : Room 4 _ := hr.mono (by decide)
    have hr34 : Room 34 _ := hr.mono (by decide)
    have hr35 : Room 35 _ := hr.mono (by decide)
    have hr36 : Room 36 _ := hr.mono (by decide)
    refine ⟨_, pss_cons (ps_set (i := 1) scLw.nd rfl (.inl rfl) (pe_call cF.G hr1 rfl cF.m cF.kp cF.b .nil pass0 (pa_cons (pv 0) pa_nil)))
      (pss_cons (ps_set (i := 2) scLw.nd rfl (.inl rfl) (pe_op op_mul pe_int (pe_callTy call_int1 (by rfl) T.int (by decide +kernel) (pa_cons (pe_cmpR op_eq (pe_call cD.G hr1 rfl cD.m cD.kp cD.b .nil pass0 (pa_cons (pv 1) (pa_cons pe_int pa_nil))) pe_int (nomark _)) pa_nil))))
      (pss_cons (ps_set (i := 3) scLw.nd rfl (.inr rfl) (pe_call cD.G hr1 rfl cD.m cD.kp cD.b .nil pass0 (pa_cons (pv 1) (pa_cons pe_int pa_nil))))
      (C8.pss_cut (ps_if (pt_cmpR op_eq (pe_call cD.G hr1 rfl cD.m cD.kp cD.b .nil pass0 (pa_cons (pv 1) (pa_cons pe_int pa_nil))) pe_int (nomark _)) (pss_one (ps_set (i := 3) scLw.nd rfl (.inr rfl) pe_int)) pss_nil)
      (pss_cons (ps_set (i := 4) scLw.nd rfl (.inl rfl) (pe_call cQ.G hr36 rfl cQ.m cQ.kp cQ.b .nil pass0 (pa_cons (pv 1) (pa_cons (pv 3) (pa_cons (pv 2) pa_nil)))))
      (pss_cons (ps_set (i := 5) scLw.nd rfl (.inl rfl) (pe_call cR.G hr36 rfl cR.m cR.kp cR.b .nil pass0 (pa_cons (pv 4) pa_nil)))
      (pss_cons (ps_setLc (i := 6) (own := [("k", 9)]) (g := gName 9) (tt := tYes) rfl scLw.nd rfl rfl (sw_true rfl rfl rfl (by decide +kernel)) (pi_range1 rfl T.range (pa_cons (pv 3) pa_nil)) (blkOk_by (N := ["script", "feed", "wide", "size", "lines", "table", "unit_v", "turn", "found", "k", "place"]) (sc := defScope sLaw) (by decide +kernel))
          (fun _ _ _ _ _ => pg_name (i := 9) scLw.nd rfl (Or.inr rfl)) (fun _ _ _ _ _ => pts_nil)
          (fun _ _ _ _ _ => pe_lc (own := [("place", 10)]) (g := gName 10) (tt := tYes) rfl scLw.nd (pi_range1 rfl T.range (pa_cons (pv 3) pa_nil)) (blkOk_by (N := ["script", "feed", "wide", "size", "lines", "table", "unit_v", "turn", "found", "k", "place"]) (sc := outLw) (by decide +kernel))
            (fun _ _ _ _ _ => pg_name (i := 10) scLw.nd rfl (Or.inl rfl)) (fun _ _ _ _ _ => pts_nil)
            (fun _ _ _ _ _ => pe_tup (pa_cons (pe_callTy call_int1 (by rfl) T.int (by decide +kernel) (pa_cons (pe_cmpR op_eq (pv 9) (pv 10) (nomark _)) pa_nil)) (pa_cons pe_int pa_nil)))))
      (pss_cons (ps_for PassesOwn.never rfl (pi_range1 rfl T.range (pa_cons pe_int pa_nil)) (pg_name (i := 7) scLw.nd rfl (.inl rfl))
        (pss_cons (ps_set (i := 8) scLw.nd rfl (.inl rfl) (pe_call cP.G hr34 rfl cP.m cP.kp cP.b .nil pass0 (pa_cons (pe_call cI.G hr rfl cI.m cI.kp cI.b .nil pass0 (pa_cons (pv 5) pa_nil)) (pa_cons (pv 3) pa_nil))))
        (pss_cons (ps_if (PW.pt (pw_or (pt_cmpR op_isN (pv 8) pe_non (nomark _)) (pw_or (pt_cmpR (op_neD hr.units) (pe_call cX.G hr35 rfl cX.m cX.kp cX.b .nil pass0 (pa_cons (pv 8) (pa_cons (pv 4) (pa_cons (pv 3) pa_nil)))) (pv 6) (nomark _))
            (pw_or1 (pt_cmpR (op_neD hr.units) (pe_call cX.G hr35 rfl cX.m cX.kp cX.b .nil pass0 (pa_cons (pv 4) (pa_cons (pv 8) (pa_cons (pv 3) pa_nil)))) (pv 6) (nomark _)))))) (pss_one ps_never) pss_nil)
        (pss_one (ps_if (PW.pt (pw_and (pt_cmpR op_gt (pv 3) pe_int (nomark _)) (pw_and1 (pt_cmpR op_notN (pe_call cI.G hr rfl cI.m cI.kp cI.b .nil pass0 (pa_cons (pe_call cR.G hr36 rfl cR.m cR.kp cR.b .nil pass0 (pa_cons (pe_call cY.G hr36 rfl cY.m cY.kp cY.b .nil pass0 (pa_cons (pv 1) (pa_cons (pv 4) pa_nil))) pa_nil)) pa_nil)) pe_non (nomark _))))) (pss_one ps_never) pss_nil)))))
      (pss_one (ps_ret (pe_call cS.G hr4 rfl cS.m cS.kp cS.b .nil pass0 (pa_cons (pv 5) (pa_cons (pv 4) pa_nil)))))))))))), ?_⟩
    refine ⟨_, rfl, a, ns, rfl, hS, hl, fun fe cl H1 s1 nfe ncl f1 => ?_⟩
    refine ⟨_, rfl, fe, cl, 3, rfl, f1, by decide, by decide, fun x0 H2 x0a x0b f2 b2 => ?_⟩
    obtain ⟨b0, hb0, b0a, b0b⟩ : ∃ b0 : Int, V.int (if decide (V.int x0 = V.int 0) = true then 1 else 0) = V.int b0 ∧ 0 ≤ b0 ∧ b0 ≤ 1 := ⟨_, rfl, by split <;> omega, by split <;> omega⟩
    have w0 : 0 ≤ 4 * b0 := by omega
    have w4 : 4 * b0 ≤ 4 := by omega
    refine ⟨rfl, .inr ⟨_, rfl, 4, b0, rfl, hb0, .inl (by decide), ?_⟩⟩
    refine ⟨_, rfl, fe, cl, 5, rfl, f2, by decide, by decide, fun x3 H3 x3a x3b f3 b3 => ?_⟩
    obtain ⟨n3, rfl, n34⟩ : ∃ c : Nat, x3 = (c : Int) ∧ c ≤ 6 := ⟨x3.toNat, by omega, by omega⟩
    refine ⟨fun σ' H' => ∃ n : Nat, σ' = [some (.ref a), some (.ref fe), some (.int (4 * b0)), some (.int (n : Nat)), none, none, none, none, none, none, none] ∧ n ≤ 6 ∧ FeedAt H' fe cl, ?_, ?_⟩
    · refine ⟨_, rfl, fe, cl, 16, rfl, f3, by decide, by decide, fun x4 H4 _ _ f4 b4 => ⟨rfl, _, rfl, ?_⟩⟩
      exact ite2 (fun _ => ⟨6, rfl, by decide, f4⟩) (fun _ => ⟨n3, rfl, n34, f4⟩)
    rintro σ' H4 ⟨n, rfl, n6, f4⟩
    refine ⟨_, rfl, _, rfl, _, rfl, fe, cl, n, 4 * b0, rfl, f4, w0, w4, n6, fun L R A' U M H5 f5 b5 nL sq => ?_⟩
    have Lf : L ≠ fe := fun e => by obtain ⟨xs, z⟩ := f4.lst; rw [← e, nL] at z; cases z
    refine ⟨_, rfl, L, n, n, R, A', U, rfl, sq.l, by omega, by omega, fun Tb S B H6 s6 nT hT => ?_⟩
    have sq := sq.same s6
    have f6 := f5.same s6
    obtain ⟨xs6, ha6⟩ := f6.lst
    refine ⟨_, rfl, _, rfl, by omega, by omega, fun D nD => ?_⟩
    have Df : D ≠ fe := (ne_of_none ha6 nD).symm
    refine lc_range (lo := 0) (n := n) (fun i H2 => ∃ Vu W, H2 D = some (.lst (refs i Vu)) ∧ (∀ j, j < i → LineQ H2 (Vu j) n (W j) (dlt j) ∧ Vu j ≠ D ∧ Vu j ≠ fe) ∧ Same H6 H2)
      ⟨fun _ => 0, fun _ _ => 0, upd_same, fun j hj => absurd hj (by omega), Same.upd nD⟩ ?_ ?_
    · rintro i H2 hi ⟨Vu, W, hD, hV, s2⟩
      refine ⟨rfl, ?_⟩
      refine ⟨_, rfl, _, rfl, by omega, by omega, fun G nG => ?_⟩
      have GD : G ≠ D := (ne_of_none hD nG).symm
      have Gf : G ≠ fe := (ne_of_none (s2 _ _ ha6) nG).symm
      refine lc_range (lo := 0) (n := n) (fun j H3 => ∃ b, H3 G = some (.lst (refs j b)) ∧ (∀ t, t < j → PrQ H3 (b t) (dlt i t)) ∧ Same H2 H3) ⟨fun _ => 0, upd_same, fun j hj => absurd hj (by omega), Same.upd nG⟩ ?_ ?_
      · rintro j H3 hj ⟨b, hG, hb, s3⟩
        refine ⟨rfl, ?_⟩
        refine ⟨_, rfl, _, rfl, rfl, .inr ⟨_, rfl, (by show 2 ≤ sizeLine; decide), fun r nr => ?_⟩⟩
        have s4 : Same H3 (upd H3 r (.tup [.int (if decide (V.int (0 + (i : Int)) = V.int (0 + (j : Int))) = true then 1 else 0), .int 1])) := Same.upd nr
        have hG4 := s4 _ _ hG
        have hR : PrQ (upd H3 r (.tup [.int (if decide (V.int (0 + (i : Int)) = V.int (0 + (j : Int))) = true then 1 else 0), .int 1])) r (dlt i j) := by
          show upd H3 r _ r = _
          rw [upd_same, (dlt_num i j).1, (dlt_num i j).2]
          congr 4
          unfold one01
          by_cases e : i = j
          · subst e; rw [if_pos (decide_eq_true rfl), if_pos rfl]
          · rw [if_neg e, if_neg (fun z => e (by have := of_decide_eq_true z; injection this; omega))]
        refine ⟨_, hG4, by rw [refs_len]; exact small1000 (by omega), ext b j r, by rw [upd_same, refs_ext], fun t ht => ?_, fun c o e => by rw [upd_ne (ne_of_none e nG)]; exact (s3.trans s4) _ _ e⟩
        by_cases e : t = j
        · subst e; rw [ext_same]
          exact hR.other (hR.ne hG4)
        · rw [ext_lt b r (by omega)]
          have q := (hb t (by omega)).same s4
          exact q.other (q.ne hG4)
      · rintro H3 ⟨b, hG, hb, s3⟩
        have hD3 := s3 _ _ hD
        refine ⟨_, hD3, by rw [refs_len]; exact small1000 (by omega), ext Vu i G, ext W i b, by rw [upd_same, refs_ext], fun t ht => ?_, fun c o e => by rw [upd_ne (ne_of_none e nD)]; exact (s2.trans s3) _ _ e⟩
        by_cases e : t = i
        · subst e; rw [ext_same, ext_same]
          exact ⟨LineAt.other ⟨hG, hb⟩ hD3 GD, GD, Gf⟩
        · rw [ext_lt Vu G (by omega), ext_lt W b (by omega)]
          obtain ⟨q1, q2, q3⟩ := hV t (by omega)
          exact ⟨(LineAt.same q1 s3).other hD3 q2, q2, q3⟩
    rintro H7 ⟨Vu, W, hD, hV, s7⟩
    have hUn : LinesQ H7 D n n Vu W dlt := ⟨hD, fun i hi => (hV i hi).1⟩
    refine ⟨_, rfl, by decide, by decide, for_range (n := 2) (fun turn σ H8 => ∃ o7 o8, σ = [some (.ref a), some (.ref fe), some (.int (4 * b0)), some (.int (n : Nat)), some (.ref L), some (.ref Tb), some (.ref D), o7, o8, none, none] ∧ FeedAt H8 fe cl ∧ Sq H8 L fe cl n R A' U M 481 565 ∧ TabQ C H8 Tb n n S B U ∧ LinesQ H8 D n n Vu W dlt)
      ⟨_, _, rfl, f6.same s7, sq.same s7, hT.same s7, hUn⟩ ?_ ?_⟩
    · rintro turn σ H8 _ ⟨o7, o8, rfl, f8, sq, hT, hUn⟩
      obtain ⟨xs8, ha8⟩ := f8.lst
      refine ⟨_, rfl, Tb, n, 481, 565, S, B, U, M, rfl, hT, n6, sq.M0, sq.Mb, by decide, sq.ov, by decide, .inl ⟨sq.cf, sq.rf, fun r S2 B2 Z H9 s9 hr2 za az hz => ?_⟩⟩
      have f9 := f8.same s9
      have sq9 := sq.same s9
      have hT9 := hT.same s9
      have hUn9 := hUn.same s9
      refine ⟨_, rfl, r, n, S2, B2, Z, rfl, hr2, by omega, fun fo S3 B3 H10 s10 nfo hfo => ?_⟩
      have f10 := f9.same s10
      have sq10 := sq9.same s10
      have hT10 := hT9.same s10
      have hUn10 := hUn9.same s10
      refine ⟨_, rfl, rfl, _, rfl, ?_⟩
      refine iteF ?_
      have hl2 : ∀ i, i < n → ∀ j, j < n → Bt 600 (U i j).num ∧ Bt 600 ((U i j).den : Int) := fun i hi j hj => ⟨((sq10.ov i hi j hj).den sq10.M0).2.up (by decide), (dvd_bt ((sq10.ov i hi j hj).den sq10.M0).1 sq10.M0 sq10.Mb).up (by decide)⟩
      have hz' : ∀ i, i < n → ∀ j, j < n → Bt 6700000 (Z i j).num ∧ Bt 6700000 ((Z i j).den : Int) := fun i hi j hj => hz i j hi hj
      have n7 : 6700600 * (n + 1) ≤ 6700600 * 7 := Nat.mul_le_mul_left _ (by omega)
      refine ⟨_, rfl, _, rfl, _, rfl, fo, L, n, n, n, 6700000, 600, S3, R, B3, A', Z, U, rfl, hfo, sq10.l, by omega, by omega, by omega, hz', hl2, by show 6700600 * (n + 1) + n + 1 ≤ 60000000; omega, fun p1 S4 B4 H11 s11 np1 hp1 => ?_⟩
      have dp1 := dp_lines (K := K) hp1
      rw [linesD_congr (V := dlt) fun i j hi hj => za i j hi hj] at dp1
      refine ⟨_, rfl, _, _, dp1, dp_lines (hUn10.same s11), (linesD_shaped _ _ _).1, (linesD_shaped _ _ _).1, _, rfl, ?_⟩
      refine iteF' (by rw [(linesD_shaped _ _ _).2]; rfl) ?_
      have sq11 := sq10.same s11
      have hfo11 := hfo.same s11
      have n7' : (600 + 6700000) * (n + 1) ≤ 6700600 * 7 := Nat.mul_le_mul_left _ (by omega)
      refine ⟨_, rfl, _, rfl, _, rfl, L, fo, n, n, n, 600, 6700000, R, S3, A', B3, U, Z, rfl, sq11.l, hfo11, by omega, by omega, by omega, hl2, hz', by omega, fun p2 S5 B5 H12 s12 np2 hp2 => ?_⟩
      have dp2 := dp_lines (K := K) hp2
      rw [linesD_congr (V := dlt) fun i j hi hj => az i j hi hj] at dp2
      have s12' := s11.trans s12
      refine ⟨_, rfl, _, _, dp2, dp_lines (hUn10.same s12'), (linesD_shaped _ _ _).1, (linesD_shaped _ _ _).1, _, rfl, ?_⟩
      refine iteF' (by rw [(linesD_shaped _ _ _).2]; rfl) ?_
      have f12 := f10.same s12'
      have sq12 := sq10.same s12'
      have hT12 := hT10.same s12'
      have hUn12 := hUn10.same s12'
      refine ⟨_, rfl, _, _, rfl, rfl, _, rfl, ?_⟩
      refine ite2 (fun z => ?_) (fun _ => iteF ⟨_, _, rfl, f12, sq12, hT12, hUn12⟩)
      have n0 : 0 < n := by have := of_decide_eq_true z; omega
      obtain ⟨xs12, ha12⟩ := f12.lst
      refine ⟨_, rfl, _, rfl, fe, cl, L, n, 481, 565, R, A', U, M, rfl, f12, Lf, sq12, n0, n6, by decide, by decide, fun r3 R3 A3 U3 M3 x i0 H13 f13 b13 nr3 hr3 hx hi0 x0 M30 M3b ov3 => ?_⟩
      refine ⟨r3, n, n, R3, A3, U3, rfl, hr3, by omega, by omega, fun t3 S6 B6 H14 s14 nt3 ht3 => ?_⟩
      refine ⟨t3, n, 481 + 4 * n, 565 + 5 * n, S6, B6, U3, M3, rfl, ht3, n6, M30, M3b, by omega, ov3, by omega, .inr ⟨x, i0, hx, hi0, x0, fun H15 s15 => ?_⟩⟩
      refine ⟨rfl, _, rfl, ?_⟩
      have s1315 := s14.trans s15
      refine iteF ⟨_, _, rfl, f13.same s1315, (sq12.but b13 ha12 Lf).same s1315, (TabAt.but hT12 b13 ha12).same s1315, LinesAt.same (LinesAt.but hUn12 b13 ha12 Df fun i hi => (hV i hi).2.2) s1315⟩
    · rintro σ H8 ⟨o7, o8, rfl, f8, sq, hT, hUn⟩
      exact ⟨_, rfl, _, rfl, Tb, L, n, n, S, R, B, A', _, _, rfl, hT, sq.l, by omega, by omega, kk _⟩
end
end RX

set_option Elab.async false
set_option maxRecDepth 100000
namespace RX
open PySem L2

set_option maxHeartbeats 0 in
theorem all_mk {l : PySem.W.OpenLaw} {w : World} {K : PySem.W.Frag} {h : Heap} {mg : Str → Option Value} {fa C TT fI fBo fOv fUn fRe fIv fEc fLe fOn fFr fSh fFe fDr fGr fPa fSu fBy fIs fSa fSr fSt fRa fRt fNu fPd fOt fAd fSq fDe fPs fL : Addr} (X : K.In h) (G : h.Ns mainGlobals mg) (hfa : mg "law" = some (.ref fa)) (ht : l.prog.given.tree = none)
    {odT odI odBo odOv odUn odRe odIv odEc odLe odOn odFr odSh odFe odDr odGr odPa odSu odBy odIs odSa odSr odSt odRa odRt odNu odPd odOt odAd odSq odDe odPs odL anI anBo anOv anUn anRe anIv anEc anLe anOn anFr anSh anFe anDr anGr anPa anSu anBy anIs anSa anSr anSt anRa anRt anNu anPd anOt anAd anSq anDe anPs anL : Option Addr} {slT slI slBo slOv slUn slRe slIv slEc slLe slOn slFr slSh slFe slDr slGr slPa slSu slBy slIs slSa slSr slSt slRa slRt slNu slPd slOt slAd slSq slDe slPs slL : Array (Option Value)} {ocT ocI kVI dcI pmI cdI ctI ocBo kVBo dcBo pmBo cdBo ctBo ocOv kVOv dcOv pmOv cdOv ctOv ocUn kVUn dcUn pmUn cdUn ctUn ocRe kVRe dcRe pmRe cdRe ctRe ocIv kVIv dcIv pmIv cdIv ctIv ocEc kVEc dcEc pmEc cdEc ctEc ocLe kVLe dcLe pmLe cdLe ctLe ocOn kVOn dcOn pmOn cdOn ctOn ocFr kVFr dcFr pmFr cdFr ctFr ocSh kVSh dcSh pmSh cdSh ctSh ocFe kVFe dcFe pmFe cdFe ctFe ocDr kVDr dcDr pmDr cdDr ctDr ocGr kVGr dcGr pmGr cdGr ctGr ocPa kVPa dcPa pmPa cdPa ctPa ocSu kVSu dcSu pmSu cdSu ctSu ocBy kVBy dcBy pmBy cdBy ctBy ocIs kVIs dcIs pmIs cdIs ctIs ocSa kVSa dcSa pmSa cdSa ctSa ocSr kVSr dcSr pmSr cdSr ctSr ocSt kVSt dcSt pmSt cdSt ctSt ocRa kVRa dcRa pmRa cdRa ctRa ocRt kVRt dcRt pmRt cdRt ctRt ocNu kVNu dcNu pmNu cdNu ctNu ocPd kVPd dcPd pmPd cdPd ctPd ocOt kVOt dcOt pmOt cdOt ctOt ocAd kVAd dcAd pmAd cdAd ctAd ocSq kVSq dcSq pmSq cdSq ctSq ocDe kVDe dcDe pmDe cdDe ctDe ocPs kVPs dcPs pmPs cdPs ctPs ocL kVL dcL pmL cdL ctL : Value} {tkT : Tok} {nT0 : Nat}
    (aC : PySem.W.nsIn K mainGlobals "Ratio" = some (some (.ref C)))
    (aG : PySem.W.nsIn K mainGlobals "gcd" = some (some (.builtin "math.gcd")))
    (aI : PySem.W.findIn K (.ref C) "__init__" = some (some (.ref fI)))
    (iI : PySem.W.isFn K (.ref fI) = true)
    (lI : K.lookup fI = some ⟨ocI, odI, .func (PySem.W.fnOf "__init__" "Ratio.__init__" (defArgs sInit) (defBody sInit) (defScope sInit) (.ref TT) kVI dcI pmI anI cdI ctI), slI⟩)
    (cI : PySem.W.codeIn K cdI "Ratio.__init__" = true)
    (kI : PySem.W.keepIn K (.ref fI) = true)
    (aBo : PySem.W.findIn K (.ref C) "__bool__" = some (some (.ref fBo)))
    (iBo : PySem.W.isFn K (.ref fBo) = true)
    (lBo : K.lookup fBo = some ⟨ocBo, odBo, .func (PySem.W.fnOf "__bool__" "Ratio.__bool__" (defArgs sBool) (defBody sBool) (defScope sBool) .none kVBo dcBo pmBo anBo cdBo ctBo), slBo⟩)
    (cBo : PySem.W.codeIn K cdBo "Ratio.__bool__" = true)
    (kBo : PySem.W.keepIn K (.ref fBo) = true)
    (aOv : PySem.W.findIn K (.ref C) "over" = some (some (.ref fOv)))
    (iOv : PySem.W.isFn K (.ref fOv) = true)
    (lOv : K.lookup fOv = some ⟨ocOv, odOv, .func (PySem.W.fnOf "over" "Ratio.over" (defArgs sOver) (defBody sOver) (defScope sOver) .none kVOv dcOv pmOv anOv cdOv ctOv), slOv⟩)
    (cOv : PySem.W.codeIn K cdOv "Ratio.over" = true)
    (kOv : PySem.W.keepIn K (.ref fOv) = true)
    (lT : K.lookup TT = some ⟨ocT, odT, .seq #[.int 1 tkT] nT0, slT⟩)
    (aUn : PySem.W.nsIn K mainGlobals "unit" = some (some (.ref fUn)))
    (lUn : K.lookup fUn = some ⟨ocUn, odUn, .func (PySem.W.fnOf "unit" "unit" (defArgs sUnit) (defBody sUnit) (defScope sUnit) .none kVUn dcUn pmUn anUn cdUn ctUn), slUn⟩)
    (cUn : PySem.W.codeIn K cdUn "unit" = true)
    (kUn : PySem.W.keepIn K (.ref fUn) = true)
    (aRe : PySem.W.nsIn K mainGlobals "reduced" = some (some (.ref fRe)))
    (lRe : K.lookup fRe = some ⟨ocRe, odRe, .func (PySem.W.fnOf "reduced" "reduced" (defArgs sReduced) (defBody sReduced) (defScope sReduced) .none kVRe dcRe pmRe anRe cdRe ctRe), slRe⟩)
    (cRe : PySem.W.codeIn K cdRe "reduced" = true)
    (kRe : PySem.W.keepIn K (.ref fRe) = true)
    (aIv : PySem.W.nsIn K mainGlobals "inverse" = some (some (.ref fIv)))
    (lIv : K.lookup fIv = some ⟨ocIv, odIv, .func (PySem.W.fnOf "inverse" "inverse" (defArgs sInv) (defBody sInv) (defScope sInv) .none kVIv dcIv pmIv anIv cdIv ctIv), slIv⟩)
    (cIv : PySem.W.codeIn K cdIv "inverse" = true)
    (kIv : PySem.W.keepIn K (.ref fIv) = true)
    (aEc : PySem.W.nsIn K mainGlobals "_echelon" = some (some (.ref fEc)))
    (lEc : K.lookup fEc = some ⟨ocEc, odEc, .func (PySem.W.fnOf "_echelon" "_echelon" (defArgs sEch) (defBody sEch) (defScope sEch) .none kVEc dcEc pmEc anEc cdEc ctEc), slEc⟩)
    (cEc : PySem.W.codeIn K cdEc "_echelon" = true)
    (kEc : PySem.W.keepIn K (.ref fEc) = true)
    (aLe : PySem.W.nsIn K mainGlobals "leading_place" = some (some (.ref fLe)))
    (lLe : K.lookup fLe = some ⟨ocLe, odLe, .func (PySem.W.fnOf "leading_place" "leading_place" (defArgs sLead) (defBody sLead) (defScope sLead) .none kVLe dcLe pmLe anLe cdLe ctLe), slLe⟩)
    (cLe : PySem.W.codeIn K cdLe "leading_place" = true)
    (kLe : PySem.W.keepIn K (.ref fLe) = true)
    (aOn : PySem.W.nsIn K mainGlobals "_with_lead_one" = some (some (.ref fOn)))
    (lOn : K.lookup fOn = some ⟨ocOn, odOn, .func (PySem.W.fnOf "_with_lead_one" "_with_lead_one" (defArgs sOne) (defBody sOne) (defScope sOne) .none kVOn dcOn pmOn anOn cdOn ctOn), slOn⟩)
    (cOn : PySem.W.codeIn K cdOn "_with_lead_one" = true)
    (kOn : PySem.W.keepIn K (.ref fOn) = true)
    (aFr : PySem.W.nsIn K mainGlobals "_freed" = some (some (.ref fFr)))
    (lFr : K.lookup fFr = some ⟨ocFr, odFr, .func (PySem.W.fnOf "_freed" "_freed" (defArgs sFreed) (defBody sFreed) (defScope sFreed) .none kVFr dcFr pmFr anFr cdFr ctFr), slFr⟩)
    (cFr : PySem.W.codeIn K cdFr "_freed" = true)
    (kFr : PySem.W.keepIn K (.ref fFr) = true)
    (aSh : PySem.W.nsIn K mainGlobals "shared_factor" = some (some (.ref fSh)))
    (lSh : K.lookup fSh = some ⟨ocSh, odSh, .func (PySem.W.fnOf "shared_factor" "shared_factor" (defArgs sShared) (defBody sShared) (defScope sShared) .none kVSh dcSh pmSh anSh cdSh ctSh), slSh⟩)
    (cSh : PySem.W.codeIn K cdSh "shared_factor" = true)
    (kSh : PySem.W.keepIn K (.ref fSh) = true)
    (aFe : PySem.W.nsIn K mainGlobals "_law_feed" = some (some (.ref fFe)))
    (lFe : K.lookup fFe = some ⟨ocFe, odFe, .func (PySem.W.fnOf "_law_feed" "_law_feed" (defArgs sFeed) (defBody sFeed) (defScope sFeed) .none kVFe dcFe pmFe anFe cdFe ctFe), slFe⟩)
    (cFe : PySem.W.codeIn K cdFe "_law_feed" = true)
    (kFe : PySem.W.keepIn K (.ref fFe) = true)
    (aDr : PySem.W.nsIn K mainGlobals "_law_draw" = some (some (.ref fDr)))
    (lDr : K.lookup fDr = some ⟨ocDr, odDr, .func (PySem.W.fnOf "_law_draw" "_law_draw" (defArgs sDraw) (defBody sDraw) (defScope sDraw) .none kVDr dcDr pmDr anDr cdDr ctDr), slDr⟩)
    (cDr : PySem.W.codeIn K cdDr "_law_draw" = true)
    (kDr : PySem.W.keepIn K (.ref fDr) = true)
    (aGr : PySem.W.nsIn K mainGlobals "_law_great" = some (some (.ref fGr)))
    (lGr : K.lookup fGr = some ⟨ocGr, odGr, .func (PySem.W.fnOf "_law_great" "_law_great" (defArgs sGreat) (defBody sGreat) (defScope sGreat) .none kVGr dcGr pmGr anGr cdGr ctGr), slGr⟩)
    (cGr : PySem.W.codeIn K cdGr "_law_great" = true)
    (kGr : PySem.W.keepIn K (.ref fGr) = true)
    (aPa : PySem.W.nsIn K mainGlobals "_law_pair" = some (some (.ref fPa)))
    (lPa : K.lookup fPa = some ⟨ocPa, odPa, .func (PySem.W.fnOf "_law_pair" "_law_pair" (defArgs sPair) (defBody sPair) (defScope sPair) .none kVPa dcPa pmPa anPa cdPa ctPa), slPa⟩)
    (cPa : PySem.W.codeIn K cdPa "_law_pair" = true)
    (kPa : PySem.W.keepIn K (.ref fPa) = true)
    (aSu : PySem.W.nsIn K mainGlobals "_law_sum" = some (some (.ref fSu)))
    (lSu : K.lookup fSu = some ⟨ocSu, odSu, .func (PySem.W.fnOf "_law_sum" "_law_sum" (defArgs sSum) (defBody sSum) (defScope sSum) .none kVSu dcSu pmSu anSu cdSu ctSu), slSu⟩)
    (cSu : PySem.W.codeIn K cdSu "_law_sum" = true)
    (kSu : PySem.W.keepIn K (.ref fSu) = true)
    (aBy : PySem.W.nsIn K mainGlobals "_law_by" = some (some (.ref fBy)))
    (lBy : K.lookup fBy = some ⟨ocBy, odBy, .func (PySem.W.fnOf "_law_by" "_law_by" (defArgs sBy) (defBody sBy) (defScope sBy) .none kVBy dcBy pmBy anBy cdBy ctBy), slBy⟩)
    (cBy : PySem.W.codeIn K cdBy "_law_by" = true)
    (kBy : PySem.W.keepIn K (.ref fBy) = true)
    (aIs : PySem.W.nsIn K mainGlobals "_law_is_integer" = some (some (.ref fIs)))
    (lIs : K.lookup fIs = some ⟨ocIs, odIs, .func (PySem.W.fnOf "_law_is_integer" "_law_is_integer" (defArgs sIsInt) (defBody sIsInt) (defScope sIsInt) .none kVIs dcIs pmIs anIs cdIs ctIs), slIs⟩)
    (cIs : PySem.W.codeIn K cdIs "_law_is_integer" = true)
    (kIs : PySem.W.keepIn K (.ref fIs) = true)
    (aSa : PySem.W.nsIn K mainGlobals "_law_same" = some (some (.ref fSa)))
    (lSa : K.lookup fSa = some ⟨ocSa, odSa, .func (PySem.W.fnOf "_law_same" "_law_same" (defArgs sSame) (defBody sSame) (defScope sSame) .none kVSa dcSa pmSa anSa cdSa ctSa), slSa⟩)
    (cSa : PySem.W.codeIn K cdSa "_law_same" = true)
    (kSa : PySem.W.keepIn K (.ref fSa) = true)
    (aSr : PySem.W.nsIn K mainGlobals "_law_same_row" = some (some (.ref fSr)))
    (lSr : K.lookup fSr = some ⟨ocSr, odSr, .func (PySem.W.fnOf "_law_same_row" "_law_same_row" (defArgs sSameRow) (defBody sSameRow) (defScope sSameRow) .none kVSr dcSr pmSr anSr cdSr ctSr), slSr⟩)
    (cSr : PySem.W.codeIn K cdSr "_law_same_row" = true)
    (kSr : PySem.W.keepIn K (.ref fSr) = true)
    (aSt : PySem.W.nsIn K mainGlobals "_law_same_table" = some (some (.ref fSt)))
    (lSt : K.lookup fSt = some ⟨ocSt, odSt, .func (PySem.W.fnOf "_law_same_table" "_law_same_table" (defArgs sSameTab) (defBody sSameTab) (defScope sSameTab) .none kVSt dcSt pmSt anSt cdSt ctSt), slSt⟩)
    (cSt : PySem.W.codeIn K cdSt "_law_same_table" = true)
    (kSt : PySem.W.keepIn K (.ref fSt) = true)
    (aRa : PySem.W.nsIn K mainGlobals "_law_ratios" = some (some (.ref fRa)))
    (lRa : K.lookup fRa = some ⟨ocRa, odRa, .func (PySem.W.fnOf "_law_ratios" "_law_ratios" (defArgs sRats) (defBody sRats) (defScope sRats) .none kVRa dcRa pmRa anRa cdRa ctRa), slRa⟩)
    (cRa : PySem.W.codeIn K cdRa "_law_ratios" = true)
    (kRa : PySem.W.keepIn K (.ref fRa) = true)
    (aRt : PySem.W.nsIn K mainGlobals "_law_ratio_table" = some (some (.ref fRt)))
    (lRt : K.lookup fRt = some ⟨ocRt, odRt, .func (PySem.W.fnOf "_law_ratio_table" "_law_ratio_table" (defArgs sRatT) (defBody sRatT) (defScope sRatT) .none kVRt dcRt pmRt anRt cdRt ctRt), slRt⟩)
    (cRt : PySem.W.codeIn K cdRt "_law_ratio_table" = true)
    (kRt : PySem.W.keepIn K (.ref fRt) = true)
    (aNu : PySem.W.nsIn K mainGlobals "_law_number" = some (some (.ref fNu)))
    (lNu : K.lookup fNu = some ⟨ocNu, odNu, .func (PySem.W.fnOf "_law_number" "_law_number" (defArgs sNumber) (defBody sNumber) (defScope sNumber) .none kVNu dcNu pmNu anNu cdNu ctNu), slNu⟩)
    (cNu : PySem.W.codeIn K cdNu "_law_number" = true)
    (kNu : PySem.W.keepIn K (.ref fNu) = true)
    (aPd : PySem.W.nsIn K mainGlobals "_law_product" = some (some (.ref fPd)))
    (lPd : K.lookup fPd = some ⟨ocPd, odPd, .func (PySem.W.fnOf "_law_product" "_law_product" (defArgs sProd) (defBody sProd) (defScope sProd) .none kVPd dcPd pmPd anPd cdPd ctPd), slPd⟩)
    (cPd : PySem.W.codeIn K cdPd "_law_product" = true)
    (kPd : PySem.W.keepIn K (.ref fPd) = true)
    (aOt : PySem.W.nsIn K mainGlobals "_law_other" = some (some (.ref fOt)))
    (lOt : K.lookup fOt = some ⟨ocOt, odOt, .func (PySem.W.fnOf "_law_other" "_law_other" (defArgs sOther) (defBody sOther) (defScope sOther) .none kVOt dcOt pmOt anOt cdOt ctOt), slOt⟩)
    (cOt : PySem.W.codeIn K cdOt "_law_other" = true)
    (kOt : PySem.W.keepIn K (.ref fOt) = true)
    (aAd : PySem.W.nsIn K mainGlobals "_law_added" = some (some (.ref fAd)))
    (lAd : K.lookup fAd = some ⟨ocAd, odAd, .func (PySem.W.fnOf "_law_added" "_law_added" (defArgs sAdded) (defBody sAdded) (defScope sAdded) .none kVAd dcAd pmAd anAd cdAd ctAd), slAd⟩)
    (cAd : PySem.W.codeIn K cdAd "_law_added" = true)
    (kAd : PySem.W.keepIn K (.ref fAd) = true)
    (aSq : PySem.W.nsIn K mainGlobals "_law_square" = some (some (.ref fSq)))
    (lSq : K.lookup fSq = some ⟨ocSq, odSq, .func (PySem.W.fnOf "_law_square" "_law_square" (defArgs sSquare) (defBody sSquare) (defScope sSquare) .none kVSq dcSq pmSq anSq cdSq ctSq), slSq⟩)
    (cSq : PySem.W.codeIn K cdSq "_law_square" = true)
    (kSq : PySem.W.keepIn K (.ref fSq) = true)
    (aDe : PySem.W.nsIn K mainGlobals "_law_dependent" = some (some (.ref fDe)))
    (lDe : K.lookup fDe = some ⟨ocDe, odDe, .func (PySem.W.fnOf "_law_dependent" "_law_dependent" (defArgs sDep) (defBody sDep) (defScope sDep) .none kVDe dcDe pmDe anDe cdDe ctDe), slDe⟩)
    (cDe : PySem.W.codeIn K cdDe "_law_dependent" = true)
    (kDe : PySem.W.keepIn K (.ref fDe) = true)
    (aPs : PySem.W.nsIn K mainGlobals "_law_pairs" = some (some (.ref fPs)))
    (lPs : K.lookup fPs = some ⟨ocPs, odPs, .func (PySem.W.fnOf "_law_pairs" "_law_pairs" (defArgs sPairs) (defBody sPairs) (defScope sPairs) .none kVPs dcPs pmPs anPs cdPs ctPs), slPs⟩)
    (cPs : PySem.W.codeIn K cdPs "_law_pairs" = true)
    (kPs : PySem.W.keepIn K (.ref fPs) = true)
    (aL : PySem.W.nsIn K mainGlobals "law" = some (some (.ref fL)))
    (lL : K.lookup fL = some ⟨ocL, odL, .func (PySem.W.fnOf "law" "law" (defArgs sLaw) (defBody sLaw) (defScope sLaw) .none kVL dcL pmL anL cdL ctL), slL⟩)
    (cL : PySem.W.codeIn K cdL "law" = true)
    (kL : PySem.W.keepIn K (.ref fL) = true)
    (pg : PySem.W.plainGet K C Str.empty = true)
    (hd : PySem.W.hasDictIn K C = true)
    (po : PySem.W.plainOver K C = true)
    (sa : PySem.W.findIn K (.ref C) "__setattr__" = some (some (.builtin "object.__setattr__")))
    (mk : PySem.W.makesIn K C = true)
    (kc : PySem.W.keepIn K (.ref C) = true)
    (nT : PySem.W.findIn K (.ref C) "top" = some none)
    (nB : PySem.W.findIn K (.ref C) "bottom" = some none)
    (xa : PySem.W.findIn K (.ref C) "__class__" = some (some (.builtin "object.__class__")))
    (xn : PySem.W.specialIn K (.builtin "object.__class__") "__get__" = some (some (.builtin "getset_descriptor.__get__")))
    (xt : PySem.W.takesIn K (.builtin "object.__class__") = some true)
    (xm : PySem.W.mroIn K C (.type "object") = some true)
    (aLc : PySem.W.nsIn K mainGlobals "lcm" = some (some (.builtin "math.lcm")))
    (z_abs : PySem.W.nsIn K mainGlobals "abs" = some none)
    (z_len : PySem.W.nsIn K mainGlobals "len" = some none)
    (z_int : PySem.W.nsIn K mainGlobals "int" = some none)
    (z_max : PySem.W.nsIn K mainGlobals "max" = some none)
    (z_range : PySem.W.nsIn K mainGlobals "range" = some none)
    (z_isinstance : PySem.W.nsIn K mainGlobals "isinstance" = some none)
    (z_bool : PySem.W.nsIn K mainGlobals "bool" = some none)
    (z_zip : PySem.W.nsIn K mainGlobals "zip" = some none)
    (z_tuple : PySem.W.nsIn K mainGlobals "tuple" = some none)
    (z_list : PySem.W.nsIn K mainGlobals "list" = some none)
    (z_enumerate : PySem.W.nsIn K mainGlobals "enumerate" = some none)
    (z_sorted : PySem.W.nsIn K mainGlobals "sorted" = some none)
    (z_reversed : PySem.W.nsIn K mainGlobals "reversed" = some none)
    : ∃ fd : FuncData, (∀ (s : Shared) (v : Value), BindsTo s fd ⟨[v], []⟩ [("script", v)]) ∧ ∀ base : Heap, K.In base → base.Ns mainGlobals mg → base.NoSeer → FnOk l.prog w K mg base CX0 40 fa fd ["script"] (spLaw K) := by
  have e := hfa.symm.trans (PySem.W.mg_of X G aL)
  cases e
  have T : TxtL mg := ⟨PySem.W.mg_none_of X G z_abs, PySem.W.mg_none_of X G z_len, PySem.W.mg_none_of X G z_int, PySem.W.mg_none_of X G z_max, PySem.W.mg_none_of X G z_range, PySem.W.mg_none_of X G z_isinstance, PySem.W.mg_none_of X G z_bool⟩
  have TR : TxtR K mg C := ⟨⟨pg, hd, po, sa⟩, nT, nB, PySem.W.mg_of X G aC, PySem.W.mg_of X G aG⟩
  have xe : PySem.W.kitOne K (.ref C) (.ref C) = some true := by
    unfold PySem.W.kitOne
    rw [if_pos (beq_self_eq_true _)]
  have IC : C8.InsC K C := ⟨⟨pg, hd, po, sa⟩, xa, xn, xt, xm, xe⟩
  obtain ⟨fdI, FI⟩ : ∃ fd, FunD K "__init__" "Ratio.__init__" (defArgs sInit) (defBody sInit) (defScope sInit) [.int 1] [] fI fd := ⟨_, ⟨ocI, odI, .ref TT, kVI, dcI, pmI, anI, cdI, ctI, slI, rfl, lI, cI, .inr ⟨(fun z => nomatch z), TT, _, [.int 1 tkT], nT0, rfl, lT, rfl, .cons ⟨tkT, rfl⟩ .nil⟩, .inl rfl⟩, kI⟩
  have bI : Binds K fdI ["self", "top", "bottom"] [] := by
    obtain ⟨ds, v, b⟩ := FI.binds1 (ps := ["self", "top", "bottom"]) 3 1 (fun z => nomatch z) rfl fun T kV doc pm an cdv ct us its hu hi => match us, its, hu, hi with | [_, _, _], [_], _, _ => ⟨_, rfl, rfl⟩
    cases v
    exact b
  have bI1 : ∃ ds, Vals [V.int 1] ds ∧ Binds K fdI ["self", "top", "bottom"] ds := FI.binds1 (ps := ["self", "top", "bottom"]) 2 0 (fun z => nomatch z) rfl fun T kV doc pm an cdv ct us its hu hi => match us, its, hu, hi with | [_, _], [_], _, _ => ⟨_, rfl, rfl⟩
  have bIk : ∃ its : List Value, KBn K fdI ["self", "top", "bottom"] 2 ["bottom"] (fun us ws => us ++ ws) (fun vs zs => vs ++ zs) := FI.kbindsD (ps := ["self", "top", "bottom"]) 2 ["bottom"] (fun us _ ws => us ++ ws) (fun z => nomatch z) (fun r1 _ r3 => r1.append r3) fun T kV doc pm an cdv ct us its ws hu hi hw => match us, its, ws, hu, hi, hw with | [_, _], [_], [_], _, _, _ => ⟨_, rfl, rfl⟩
  have FBo := fun_mk (st := sBool) lBo cBo kBo
  have bBo := FBo.binds (ps := ["self"]) fun _ _ _ _ _ _ us hl => match us, hl with | [_], _ => rfl
  have FOv := fun_mk (st := sOver) lOv cOv kOv
  have bOv := FOv.binds (ps := ["self", "other"]) fun _ _ _ _ _ _ us hl => match us, hl with | [_, _], _ => rfl
  have FUn := fun_mk (st := sUnit) lUn cUn kUn
  have bUn := FUn.binds (ps := ["size"]) fun _ _ _ _ _ _ us hl => match us, hl with | [_], _ => rfl
  have mUn := PySem.W.mg_of X G aUn
  have FRe := fun_mk (st := sReduced) lRe cRe kRe
  have bRe := FRe.binds (ps := ["rows"]) fun _ _ _ _ _ _ us hl => match us, hl with | [_], _ => rfl
  have mRe := PySem.W.mg_of X G aRe
  have FIv := fun_mk (st := sInv) lIv cIv kIv
  have bIv := FIv.binds (ps := ["table"]) fun _ _ _ _ _ _ us hl => match us, hl with | [_], _ => rfl
  have mIv := PySem.W.mg_of X G aIv
  have FEc := fun_mk (st := sEch) lEc cEc kEc
  have bEc := FEc.binds (ps := ["rows"]) fun _ _ _ _ _ _ us hl => match us, hl with | [_], _ => rfl
  have mEc := PySem.W.mg_of X G aEc
  have FLe := fun_mk (st := sLead) lLe cLe kLe
  have bLe := FLe.binds (ps := ["row"]) fun _ _ _ _ _ _ us hl => match us, hl with | [_], _ => rfl
  have mLe := PySem.W.mg_of X G aLe
  have FOn := fun_mk (st := sOne) lOn cOn kOn
  have bOn := FOn.binds (ps := ["row", "lead"]) fun _ _ _ _ _ _ us hl => match us, hl with | [_, _], _ => rfl
  have mOn := PySem.W.mg_of X G aOn
  have FFr := fun_mk (st := sFreed) lFr cFr kFr
  have bFr := FFr.binds (ps := ["row", "other", "lead"]) fun _ _ _ _ _ _ us hl => match us, hl with | [_, _, _], _ => rfl
  have mFr := PySem.W.mg_of X G aFr
  have FSh := fun_mk (st := sShared) lSh cSh kSh
  have bSh := FSh.binds (ps := ["row"]) fun _ _ _ _ _ _ us hl => match us, hl with | [_], _ => rfl
  have mSh := PySem.W.mg_of X G aSh
  have FFe := fun_mk (st := sFeed) lFe cFe kFe
  have bFe := FFe.binds (ps := ["script"]) fun _ _ _ _ _ _ us hl => match us, hl with | [_], _ => rfl
  have mFe := PySem.W.mg_of X G aFe
  have FDr := fun_mk (st := sDraw) lDr cDr kDr
  have bDr := FDr.binds (ps := ["feed", "limit"]) fun _ _ _ _ _ _ us hl => match us, hl with | [_, _], _ => rfl
  have mDr := PySem.W.mg_of X G aDr
  have FGr := fun_mk (st := sGreat) lGr cGr kGr
  have bGr := FGr.binds (ps := ["feed", "parts"]) fun _ _ _ _ _ _ us hl => match us, hl with | [_, _], _ => rfl
  have mGr := PySem.W.mg_of X G aGr
  have FPa := fun_mk (st := sPair) lPa cPa kPa
  have bPa := FPa.binds (ps := ["above", "below"]) fun _ _ _ _ _ _ us hl => match us, hl with | [_, _], _ => rfl
  have mPa := PySem.W.mg_of X G aPa
  have FSu := fun_mk (st := sSum) lSu cSu kSu
  have bSu := FSu.binds (ps := ["one", "two"]) fun _ _ _ _ _ _ us hl => match us, hl with | [_, _], _ => rfl
  have mSu := PySem.W.mg_of X G aSu
  have FBy := fun_mk (st := sBy) lBy cBy kBy
  have bBy := FBy.binds (ps := ["one", "two"]) fun _ _ _ _ _ _ us hl => match us, hl with | [_, _], _ => rfl
  have mBy := PySem.W.mg_of X G aBy
  have FIs := fun_mk (st := sIsInt) lIs cIs kIs
  have bIs := FIs.binds (ps := ["actual"]) fun _ _ _ _ _ _ us hl => match us, hl with | [_], _ => rfl
  have mIs := PySem.W.mg_of X G aIs
  have FSa := fun_mk (st := sSame) lSa cSa kSa
  have bSa := FSa.binds (ps := ["actual", "due"]) fun _ _ _ _ _ _ us hl => match us, hl with | [_, _], _ => rfl
  have mSa := PySem.W.mg_of X G aSa
  have FSr := fun_mk (st := sSameRow) lSr cSr kSr
  have bSr := FSr.binds (ps := ["actual", "due"]) fun _ _ _ _ _ _ us hl => match us, hl with | [_, _], _ => rfl
  have mSr := PySem.W.mg_of X G aSr
  have FSt := fun_mk (st := sSameTab) lSt cSt kSt
  have bSt := FSt.binds (ps := ["actual", "due"]) fun _ _ _ _ _ _ us hl => match us, hl with | [_, _], _ => rfl
  have mSt := PySem.W.mg_of X G aSt
  have FRa := fun_mk (st := sRats) lRa cRa kRa
  have bRa := FRa.binds (ps := ["line"]) fun _ _ _ _ _ _ us hl => match us, hl with | [_], _ => rfl
  have mRa := PySem.W.mg_of X G aRa
  have FRt := fun_mk (st := sRatT) lRt cRt kRt
  have bRt := FRt.binds (ps := ["lines"]) fun _ _ _ _ _ _ us hl => match us, hl with | [_], _ => rfl
  have mRt := PySem.W.mg_of X G aRt
  have FNu := fun_mk (st := sNumber) lNu cNu kNu
  have bNu := FNu.binds (ps := ["feed", "wide"]) fun _ _ _ _ _ _ us hl => match us, hl with | [_, _], _ => rfl
  have mNu := PySem.W.mg_of X G aNu
  have FPd := fun_mk (st := sProd) lPd cPd kPd
  have bPd := FPd.binds (ps := ["one", "two", "width"]) fun _ _ _ _ _ _ us hl => match us, hl with | [_, _, _], _ => rfl
  have mPd := PySem.W.mg_of X G aPd
  have FOt := fun_mk (st := sOther) lOt cOt kOt
  have bOt := FOt.binds (ps := ["feed", "wide"]) fun _ _ _ _ _ _ us hl => match us, hl with | [_, _], _ => rfl
  have mOt := PySem.W.mg_of X G aOt
  have FAd := fun_mk (st := sAdded) lAd cAd kAd
  have bAd := FAd.binds (ps := ["line", "number", "other"]) fun _ _ _ _ _ _ us hl => match us, hl with | [_, _, _], _ => rfl
  have mAd := PySem.W.mg_of X G aAd
  have FSq := fun_mk (st := sSquare) lSq cSq kSq
  have bSq := FSq.binds (ps := ["feed", "size", "wide"]) fun _ _ _ _ _ _ us hl => match us, hl with | [_, _, _], _ => rfl
  have mSq := PySem.W.mg_of X G aSq
  have FDe := fun_mk (st := sDep) lDe cDe kDe
  have bDe := FDe.binds (ps := ["feed", "lines"]) fun _ _ _ _ _ _ us hl => match us, hl with | [_, _], _ => rfl
  have mDe := PySem.W.mg_of X G aDe
  have FPs := fun_mk (st := sPairs) lPs cPs kPs
  have bPs := FPs.binds (ps := ["actual", "size"]) fun _ _ _ _ _ _ us hl => match us, hl with | [_, _], _ => rfl
  have mPs := PySem.W.mg_of X G aPs
  refine ⟨PySem.W.fnOf "law" "law" (defArgs sLaw) (defBody sLaw) (defScope sLaw) .none kVL dcL pmL anL cdL ctL, fun s v => .of_eq rfl, fun base _ _ seer => ?_⟩
  have BG : PL.Big l.prog base := ⟨seer, ht⟩
  have M : Mk K C fI := ⟨mk, aI, iI, kc⟩
  have GI := ok_init (P := l.prog) (w := w) (base := base) FI TR
  have TP : TxtP mg := ⟨PySem.W.mg_none_of X G z_zip, PySem.W.mg_of X G aLc, PySem.W.mg_none_of X G z_tuple, PySem.W.mg_none_of X G z_list, PySem.W.mg_none_of X G z_range⟩
  have zE := PySem.W.mg_none_of X G z_enumerate
  have zS := PySem.W.mg_none_of X G z_sorted
  have zR := PySem.W.mg_none_of X G z_reversed
  have GIB := ok_initB (P := l.prog) (w := w) (base := base) BG FI TR
  have GB := ok_boolQ (P := l.prog) (w := w) (base := base) FBo TR T.bool
  have GO := ok_over (P := l.prog) (w := w) (base := base) FOv TR M GIB bI
  have mO : Meth K C "over" fOv := ⟨aOv, iOv, kOv⟩
  have GPB := ok_pairB (w := w) BG FPa T
  have gSh : CalN l.prog w K mg base "shared_factor" 1 ["row"] spShared fSh _ := ⟨ok_shared FSh TR.gcd, mSh, kSh, bSh⟩
  have gLe : CalN l.prog w K mg base "leading_place" 2 ["row"] (spLead C) fLe _ := ⟨ok_lead FLe zE aBo iBo GB bBo, mLe, kLe, bLe⟩
  have gOn : CalN l.prog w K mg base "_with_lead_one" 36 ["row", "lead"] (spOne C) fOn _ := ⟨ok_one FOn TP TR mO GO bOv, mOn, kOn, bOn⟩
  have gFr : CalN l.prog w K mg base "_freed" 36 ["row", "other", "lead"] (spFreed C) fFr _ := ⟨ok_freed BG FFr TP TR M GIB bI bI1 mO GO bOv aBo iBo GB bBo gSh, mFr, kFr, bFr⟩
  have gEc : CalN l.prog w K mg base "_echelon" 37 ["rows"] (spEch C) fEc _ := ⟨ok_ech FEc gFr gLe, mEc, kEc, bEc⟩
  have gRe : CalN l.prog w K mg base "reduced" 38 ["rows"] (spReduced C) fRe _ := ⟨ok_reduced FRe TP zS zR gEc gFr gOn, mRe, kRe, bRe⟩
  have gUn : CalN l.prog w K mg base "unit" 3 ["size"] (spUnit C) fUn _ := ⟨ok_unit FUn TP TR M GI bI1, mUn, kUn, bUn⟩
  have gIv : CalN l.prog w K mg base "inverse" 39 ["table"] (spInv C) fIv _ := ⟨ok_inv FIv TP T.len gRe gUn aBo iBo GB bBo, mIv, kIv, bIv⟩
  have gFe : CalN l.prog w K mg base "_law_feed" 1 ["script"] (spFeed K) fFe _ := ⟨ok_feed FFe T, mFe, kFe, bFe⟩
  have gDr : CalN l.prog w K mg base "_law_draw" 1 ["feed", "limit"] spDraw fDr _ := ⟨ok_draw FDr T, mDr, kDr, bDr⟩
  have gGr : CalN l.prog w K mg base "_law_great" 2 ["feed", "parts"] spGreat fGr _ := ⟨ok_great FGr T gDr.G mDr kDr bDr, mGr, kGr, bGr⟩
  have gPa : CalN l.prog w K mg base "_law_pair" 1 ["above", "below"] spPair fPa _ := ⟨ok_pair FPa T, mPa, kPa, bPa⟩
  have gPb : CalN l.prog w K mg base "_law_pair" 33 ["above", "below"] spPairB fPa _ := ⟨GPB, mPa, kPa, bPa⟩
  have gSu : CalN l.prog w K mg base "_law_sum" 34 ["one", "two"] spSumQ fSu _ := ⟨FnOk.weak (ok_sumB FSu GPB mPa kPa bPa) sum_q, mSu, kSu, bSu⟩
  have gBy : CalN l.prog w K mg base "_law_by" 34 ["one", "two"] spByQ fBy _ := ⟨FnOk.weak (ok_byB FBy GPB mPa kPa bPa) by_q, mBy, kBy, bBy⟩
  have gIs : CalN l.prog w K mg base "_law_is_integer" 1 ["actual"] spIsInt fIs _ := ⟨ok_isInt FIs T, mIs, kIs, bIs⟩
  have gSa : CalN l.prog w K mg base "_law_same" 2 ["actual", "due"] (spSame C) fSa _ := ⟨ok_same FSa T TR IC gIs.G mIs kIs bIs, mSa, kSa, bSa⟩
  have gSr : CalN l.prog w K mg base "_law_same_row" 3 ["actual", "due"] (spSameRow C) fSr _ := ⟨ok_sameRow FSr T TP gSa, mSr, kSr, bSr⟩
  have gSt : CalN l.prog w K mg base "_law_same_table" 4 ["actual", "due"] (spSameTab C) fSt _ := ⟨ok_sameTab FSt T TP gSr, mSt, kSt, bSt⟩
  have gRa : CalN l.prog w K mg base "_law_ratios" 35 ["line"] (spRatsQ C) fRa _ := ⟨ok_ratsQ FRa TP TR M GIB bI, mRa, kRa, bRa⟩
  have gRt : CalN l.prog w K mg base "_law_ratio_table" 36 ["lines"] (spRatTQ C) fRt _ := ⟨ok_ratT FRt TP gRa, mRt, kRt, bRt⟩
  have gNu : CalN l.prog w K mg base "_law_number" 3 ["feed", "wide"] spNumQ fNu _ := ⟨ok_number FNu T gDr gGr gPa, mNu, kNu, bNu⟩
  have gOt : CalN l.prog w K mg base "_law_other" 4 ["feed", "wide"] spOther fOt _ := ⟨ok_other FOt gNu gDr, mOt, kOt, bOt⟩
  have gAd : CalN l.prog w K mg base "_law_added" 35 ["line", "number", "other"] spAdded fAd _ := ⟨ok_added FAd T gSu gBy, mAd, kAd, bAd⟩
  have gSq : CalN l.prog w K mg base "_law_square" 36 ["feed", "size", "wide"] spSquare fSq _ := ⟨ok_square FSq T gOt gDr gAd gNu, mSq, kSq, bSq⟩
  have gDe : CalN l.prog w K mg base "_law_dependent" 36 ["feed", "lines"] spDep fDe _ := ⟨ok_dep FDe T gDr gAd gNu, mDe, kDe, bDe⟩
  have gPs : CalN l.prog w K mg base "_law_pairs" 34 ["actual", "size"] (spPairs C) fPs _ := ⟨ok_pairs FPs T TP TR IC gIs gPb, mPs, kPs, bPs⟩
  have gPd : CalN l.prog w K mg base "_law_product" 35 ["one", "two", "width"] spProdQ fPd _ := ⟨ok_prodQ FPd T gSu gBy, mPd, kPd, bPd⟩
  exact ok_law (fun_mk (st := sLaw) lL cL kL) T TP gFe gDr gSq gRt gIv gPs gPd gDe gSt
theorem walk {l : PySem.W.OpenLaw} {q : Program} {loose : List Str} {XP : (Str → Option Value) → Heap → Prop} {YP : World → Heap → Prop} {d : DefRec} {K : Params → PySem.W.Frag} (hi : PyProof.Rows.importsNone q = true) (hn : l.most = some 63) (hdf : d.params.defaults = [])
    (hY : ∀ (w : World) (h : Heap), YP w h → (K w.params).In h)
    (F : ∀ (w : World) (mg : Str → Option Value) (fa : Addr) (h : Heap), (K w.params).In h → h.Ns mainGlobals mg → mg d.name = some (.ref fa) →
      ∃ fd : FuncData, (∀ (s : Shared) (u : Value), BindsTo s fd ⟨[u], []⟩ [("script", u)]) ∧ ∀ base : Heap, (K w.params).In base → base.Ns mainGlobals mg → base.NoSeer → FnOk l.prog w (K w.params) mg base CX0 40 fa fd ["script"] (spLaw (K w.params))) :
    PySem.W.WalkO q loose XP YP l.row.toRowW d [] (fun f vs => PySem.call f vs) :=
  PL.big_walk (n := 63) (k := 40) (x := "script") (CX := fun _ => CX0) (sp := fun w => spLaw (K w.params)) hi hn (by decide) hdf ⟨rfl, by decide, by decide⟩ hY F (fun _ _ a ns hl _ hS => ⟨a, ns, rfl, hS, hl, fun _ => rfl⟩) fun _ _ _ _ _ z => z
end RX

set_option Elab.async false

open PySem PySem.W PyProof.Rows in
set_option maxRecDepth 100000 in
set_option maxHeartbeats 0 in
theorem PySem.Challenge.cw_wordworth_k07_inverse_holds : PySem.Challenge.rw_wordworth_k07_inverse.Holds := by
  w_on; o_law; k_head; (case hw => w_witness2)
  k_fill
  refine RX.walk (l := PySem.Challenge.rw_wordworth_k07_inverse) rfl rfl rfl (fun w h Y => PySem.W.kIn_of Y) ?F
  case F =>
    intro w mg fa h KX G hmg
    refine' RX.all_mk KX G hmg rfl ?aC ?aG ?aI ?iI ?lI ?cI ?kI ?aBo ?iBo ?lBo ?cBo ?kBo ?aOv ?iOv ?lOv ?cOv ?kOv ?lT ?aUn ?lUn ?cUn ?kUn ?aRe ?lRe ?cRe ?kRe ?aIv ?lIv ?cIv ?kIv ?aEc ?lEc ?cEc ?kEc ?aLe ?lLe ?cLe ?kLe ?aOn ?lOn ?cOn ?kOn ?aFr ?lFr ?cFr ?kFr ?aSh ?lSh ?cSh ?kSh ?aFe ?lFe ?cFe ?kFe ?aDr ?lDr ?cDr ?kDr ?aGr ?lGr ?cGr ?kGr ?aPa ?lPa ?cPa ?kPa ?aSu ?lSu ?cSu ?kSu ?aBy ?lBy ?cBy ?kBy ?aIs ?lIs ?cIs ?kIs ?aSa ?lSa ?cSa ?kSa ?aSr ?lSr ?cSr ?kSr ?aSt ?lSt ?cSt ?kSt ?aRa ?lRa ?cRa ?kRa ?aRt ?lRt ?cRt ?kRt ?aNu ?lNu ?cNu ?kNu ?aPd ?lPd ?cPd ?kPd ?aOt ?lOt ?cOt ?kOt ?aAd ?lAd ?cAd ?kAd ?aSq ?lSq ?cSq ?kSq ?aDe ?lDe ?cDe ?kDe ?aPs ?lPs ?cPs ?kPs ?aL ?lL ?cL ?kL ?pg ?hd ?po ?sa ?mk ?kc ?nT ?nB ?xa ?xn ?xt ?xm ?aLc ?z_abs ?z_len ?z_int ?z_max ?z_range ?z_isinstance ?z_bool ?z_zip ?z_tuple ?z_list ?z_enumerate ?z_sorted ?z_reversed
    (case aC => k_is)
    (case aG => k_is)
    (case aI => k_is)
    (case iI => k_is)
    (case lI => k_is)
    (case cI => k_is)
    (case kI => k_is)
    (case aBo => k_is)
    (case iBo => k_is)
    (case lBo => k_is)
    (case cBo => k_is)
    (case kBo => k_is)
    (case aOv => k_is)
    (case iOv => k_is)
    (case lOv => k_is)
    (case cOv => k_is)
    (case kOv => k_is)
    (case lT => k_is)
    (case aUn => k_is)
    (case lUn => k_is)
    (case cUn => k_is)
    (case kUn => k_is)
    (case aRe => k_is)
    (case lRe => k_is)
    (case cRe => k_is)
    (case kRe => k_is)
    (case aIv => k_is)
    (case lIv => k_is)
    (case cIv => k_is)
    (case kIv => k_is)
    (case aEc => k_is)
    (case lEc => k_is)
    (case cEc => k_is)
    (case kEc => k_is)
    (case aLe => k_is)
    (case lLe => k_is)
    (case cLe => k_is)
    (case kLe => k_is)
    (case aOn => k_is)
    (case lOn => k_is)
    (case cOn => k_is)
    (case kOn => k_is)
    (case aFr => k_is)
    (case lFr => k_is)
    (case cFr => k_is)
    (case kFr => k_is)
    (case aSh => k_is)
    (case lSh => k_is)
    (case cSh => k_is)
    (case kSh => k_is)
    (case aFe => k_is)
    (case lFe => k_is)
    (case cFe => k_is)
    (case kFe => k_is)
    (case aDr => k_is)
    (case lDr => k_is)
    (case cDr => k_is)
    (case kDr => k_is)
    (case aGr => k_is)
    (case lGr => k_is)
    (case cGr => k_is)
    (case kGr => k_is)
    (case aPa => k_is)
    (case lPa => k_is)
    (case cPa => k_is)
    (case kPa => k_is)
    (case aSu => k_is)
    (case lSu => k_is)
    (case cSu => k_is)
    (case kSu => k_is)
    (case aBy => k_is)
    (case lBy => k_is)
    (case cBy => k_is)
    (case kBy => k_is)
    (case aIs => k_is)
    (case lIs => k_is)
    (case cIs => k_is)
    (case kIs => k_is)
    (case aSa => k_is)
    (case lSa => k_is)
    (case cSa => k_is)
    (case kSa => k_is)
    (case aSr => k_is)
    (case lSr => k_is)
    (case cSr => k_is)
    (case kSr => k_is)
    (case aSt => k_is)
    (case lSt => k_is)
    (case cSt => k_is)
    (case kSt => k_is)
    (case aRa => k_is)
    (case lRa => k_is)
    (case cRa => k_is)
    (case kRa => k_is)
    (case aRt => k_is)
    (case lRt => k_is)
    (case cRt => k_is)
    (case kRt => k_is)
    (case aNu => k_is)
    (case lNu => k_is)
    (case cNu => k_is)
    (case kNu => k_is)
    (case aPd => k_is)
    (case lPd => k_is)
    (case cPd => k_is)
    (case kPd => k_is)
    (case aOt => k_is)
    (case lOt => k_is)
    (case cOt => k_is)
    (case kOt => k_is)
    (case aAd => k_is)
    (case lAd => k_is)
    (case cAd => k_is)
    (case kAd => k_is)
    (case aSq => k_is)
    (case lSq => k_is)
    (case cSq => k_is)
    (case kSq => k_is)
    (case aDe => k_is)
    (case lDe => k_is)
    (case cDe => k_is)
    (case kDe => k_is)
    (case aPs => k_is)
    (case lPs => k_is)
    (case cPs => k_is)
    (case kPs => k_is)
    (case aL => k_is)
    (case lL => k_is)
    (case cL => k_is)
    (case kL => k_is)
    (case pg => k_is)
    (case hd => k_is)
    (case po => k_is)
    (case sa => k_is)
    (case mk => k_is)
    (case kc => k_is)
    (case nT => k_is)
    (case nB => k_is)
    (case xa => k_is)
    (case xn => k_is)
    (case xt => k_is)
    (case xm => k_is)
    (case aLc => k_is)
    (case z_abs => k_is)
    (case z_len => k_is)
    (case z_int => k_is)
    (case z_max => k_is)
    (case z_range => k_is)
    (case z_isinstance => k_is)
    (case z_bool => k_is)
    (case z_zip => k_is)
    (case z_tuple => k_is)
    (case z_list => k_is)
    (case z_enumerate => k_is)
    (case z_sorted => k_is)
    (case z_reversed => k_is)

