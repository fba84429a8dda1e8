import PyProof.Rows.All
import Wide.All
import OpenK.AllK
import Wide.FinOn
import HandS.Call
import HandS.List
import HandS.Wide
import KE.KOpsOwn
import HandS.ForMost
import HandS.Gcd
import HandS.MakeKw
import HandS.IsInst
import HandS.Codes
import HandS.ExcInitHot
import HandS.ExcField
import HandS.CallSlots
import HandS.Words
import HandS.WordsExc
import KE.KExcIs
import HandS.HotCalls
import HandS.Comp
import HandS.Defaults
import HandS.MakeKwOnly
import HandS.Steps
import PySem.Challenge.RW_wordworth_k03_ratio_refusals
/-! lowest terms, in plain Lean -/
namespace RT
def gg (t b : Int) : Int := ((Nat.gcd t.natAbs b.natAbs : Nat) : Int)
def byv (t b : Int) : Int := if b > 0 then gg t b else -(gg t b)
def top (t b : Int) : Int := t.fdiv (byv t b)
def bot (t b : Int) : Int := b.fdiv (byv t b)
theorem gg_pos {t b : Int} (h : b ≠ 0) : 0 < gg t b := by
  have : 0 < Nat.gcd t.natAbs b.natAbs := Nat.gcd_pos_of_pos_right _ (by omega)
  unfold gg; omega
theorem byv_ne {t b : Int} (h : b ≠ 0) : byv t b ≠ 0 := by
  have := gg_pos (t := t) h
  unfold byv; split <;> omega
theorem gg_dvd_l (t b : Int) : gg t b ∣ t := by
  unfold gg
  exact Int.ofNat_dvd_left.mpr (Nat.gcd_dvd_left _ _)
theorem gg_dvd_r (t b : Int) : gg t b ∣ b := by
  unfold gg
  exact Int.ofNat_dvd_left.mpr (Nat.gcd_dvd_right _ _)
theorem byv_dvd_l (t b : Int) : byv t b ∣ t := by
  unfold byv; split
  · exact gg_dvd_l t b
  · exact Int.neg_dvd.mpr (gg_dvd_l t b)
theorem byv_dvd_r (t b : Int) : byv t b ∣ b := by
  unfold byv; split
  · exact gg_dvd_r t b
  · exact Int.neg_dvd.mpr (gg_dvd_r t b)
theorem byv_natAbs (t b : Int) : (byv t b).natAbs = Nat.gcd t.natAbs b.natAbs := by
  unfold byv gg; split <;> simp
theorem fdiv_of_dvd {a b : Int} (hb : b ≠ 0) (h : b ∣ a) : a.fdiv b * b = a := by
  obtain ⟨k, rfl⟩ := h
  rw [Int.mul_fdiv_cancel_left _ hb, Int.mul_comm]
theorem top_mul {t b : Int} (h : b ≠ 0) : top t b * byv t b = t := fdiv_of_dvd (byv_ne h) (byv_dvd_l t b)
theorem bot_mul {t b : Int} (h : b ≠ 0) : bot t b * byv t b = b := fdiv_of_dvd (byv_ne h) (byv_dvd_r t b)
theorem bot_pos {t b : Int} (h : b ≠ 0) : 0 < bot t b := by
  have e := bot_mul (t := t) h
  have g := gg_pos (t := t) h
  unfold byv at e
  split at e
  · rename_i hb
    rcases Int.lt_trichotomy (bot t b) 0 with z | z | z
    · have := Int.mul_neg_of_neg_of_pos z g; omega
    · rw [z] at e; omega
    · exact z
  · rename_i hb
    rcases Int.lt_trichotomy (bot t b) 0 with z | z | z
    · have := Int.mul_neg_of_neg_of_pos z g
      have h2 : bot t b * -gg t b = -(bot t b * gg t b) := Int.mul_neg _ _
      omega
    · rw [z] at e; omega
    · exact z
theorem cop {t b : Int} (h : b ≠ 0) : Nat.Coprime (top t b).natAbs (bot t b).natAbs := by
  have e1 : (top t b).natAbs * Nat.gcd t.natAbs b.natAbs = t.natAbs := by
    rw [← byv_natAbs, ← Int.natAbs_mul, top_mul h]
  have e2 : (bot t b).natAbs * Nat.gcd t.natAbs b.natAbs = b.natAbs := by
    rw [← byv_natAbs, ← Int.natAbs_mul, bot_mul h]
  have hp : 0 < Nat.gcd t.natAbs b.natAbs := Nat.gcd_pos_of_pos_right _ (by omega)
  have : Nat.gcd ((top t b).natAbs * Nat.gcd t.natAbs b.natAbs) ((bot t b).natAbs * Nat.gcd t.natAbs b.natAbs) = Nat.gcd t.natAbs b.natAbs := by rw [e1, e2]
  rw [Nat.gcd_mul_right] at this
  unfold Nat.Coprime
  exact Nat.eq_of_mul_eq_mul_right hp (by rw [this, Nat.one_mul])
/-- two in lowest terms that are worth the same are the same -/
theorem uniq {n d n' d' : Int} (hd : 0 < d) (hd' : 0 < d') (c : Nat.Coprime n.natAbs d.natAbs) (c' : Nat.Coprime n'.natAbs d'.natAbs) (e : n * d' = n' * d) : n = n' ∧ d = d' := by
  have ea : n.natAbs * d'.natAbs = n'.natAbs * d.natAbs := by rw [← Int.natAbs_mul, e, Int.natAbs_mul]
  have h1 : d.natAbs ∣ d'.natAbs := c.symm.dvd_of_dvd_mul_left ⟨n'.natAbs, by rw [ea, Nat.mul_comm]⟩
  have h2 : d'.natAbs ∣ d.natAbs := c'.symm.dvd_of_dvd_mul_left ⟨n.natAbs, by rw [← ea, Nat.mul_comm]⟩
  have h3 : d.natAbs = d'.natAbs := Nat.dvd_antisymm h1 h2
  have h4 : d = d' := by omega
  subst h4
  exact ⟨Int.eq_of_mul_eq_mul_right (by omega) e, rfl⟩
theorem same {t b t' b' : Int} (h : b ≠ 0) (h' : b' ≠ 0) (e : t * b' = t' * b) : top t b = top t' b' ∧ bot t b = bot t' b' := by
  refine uniq (bot_pos h) (bot_pos h') (cop h) (cop h') ?_
  have e1 := top_mul (t := t) h
  have e2 := bot_mul (t := t) h
  have e3 := top_mul (t := t') h'
  have e4 := bot_mul (t := t') h'
  refine Int.eq_of_mul_eq_mul_right (byv_ne (t := t) h) (Int.eq_of_mul_eq_mul_right (byv_ne (t := t') h') ?_)
  calc top t b * bot t' b' * byv t b * byv t' b' = (top t b * byv t b) * (bot t' b' * byv t' b') := by ac_rfl
    _ = t * b' := by rw [e1, e4]
    _ = t' * b := e
    _ = (top t' b' * byv t' b') * (bot t b * byv t b) := by rw [e3, e2]
    _ = top t' b' * bot t b * byv t b * byv t' b' := by ac_rfl
/-- what is in lowest terms stays -/
theorem keeps {n d : Int} (hd : 0 < d) (c : Nat.Coprime n.natAbs d.natAbs) : top n d = n ∧ bot n d = d := by
  have h : d ≠ 0 := by omega
  refine uniq (bot_pos h) hd (cop h) c ?_
  have e1 := top_mul (t := n) h
  have e2 := bot_mul (t := n) h
  refine Int.eq_of_mul_eq_mul_right (byv_ne (t := n) h) ?_
  calc top n d * d * byv n d = (top n d * byv n d) * d := by ac_rfl
    _ = n * d := by rw [e1]
    _ = n * (bot n d * byv n d) := by rw [e2]
    _ = n * bot n d * byv n d := by ac_rfl
theorem one (t : Int) : top t 1 = t ∧ bot t 1 = 1 := keeps (by decide) (Nat.coprime_one_right _)
/-- worth: the fraction is the same number -/
theorem cross {t b : Int} (h : b ≠ 0) : top t b * b = t * bot t b := by
  have e1 := top_mul (t := t) h
  have e2 := bot_mul (t := t) h
  have e : top t b * b = top t b * (bot t b * byv t b) := by rw [e2]
  have e' : t * bot t b = (top t b * byv t b) * bot t b := by rw [e1]
  rw [e, e']; ac_rfl
theorem top_le {t b : Int} (h : b ≠ 0) : (top t b).natAbs ≤ t.natAbs := by
  have e1 : (top t b).natAbs * (byv t b).natAbs = t.natAbs := by rw [← Int.natAbs_mul, top_mul h]
  have : 0 < (byv t b).natAbs := by have := byv_ne (t := t) h; omega
  rw [← e1]; exact Nat.le_mul_of_pos_right _ this
theorem bot_le {t b : Int} (h : b ≠ 0) : (bot t b).natAbs ≤ b.natAbs := by
  have e1 : (bot t b).natAbs * (byv t b).natAbs = b.natAbs := by rw [← Int.natAbs_mul, bot_mul h]
  have : 0 < (byv t b).natAbs := by have := byv_ne (t := t) h; omega
  rw [← e1]; exact Nat.le_mul_of_pos_right _ this
theorem byv_le {t b : Int} (h : b ≠ 0) : (byv t b).natAbs ≤ b.natAbs := by
  rw [byv_natAbs]; exact Nat.le_of_dvd (by omega) (Nat.gcd_dvd_right _ _)
/-- minus and less -/
theorem neg_cop {n d : Int} (c : Nat.Coprime n.natAbs d.natAbs) : Nat.Coprime (0 - n).natAbs d.natAbs := by
  have : (0 - n).natAbs = n.natAbs := by omega
  rw [this]; exact c
/-- distributive, over lowest terms -/
theorem chain {a b c d e f : Int} (hb : b ≠ 0) (hd : d ≠ 0) (hf : f ≠ 0) :
    top (top (a * e) (b * f) * bot (c * e) (d * f) + top (c * e) (d * f) * bot (a * e) (b * f)) (bot (a * e) (b * f) * bot (c * e) (d * f))
      = top (top (a * d + c * b) (b * d) * e) (bot (a * d + c * b) (b * d) * f) ∧
    bot (top (a * e) (b * f) * bot (c * e) (d * f) + top (c * e) (d * f) * bot (a * e) (b * f)) (bot (a * e) (b * f) * bot (c * e) (d * f))
      = bot (top (a * d + c * b) (b * d) * e) (bot (a * d + c * b) (b * d) * f) := by
  have h1 : b * f ≠ 0 := Int.mul_ne_zero hb hf
  have h2 : d * f ≠ 0 := Int.mul_ne_zero hd hf
  have h3 : b * d ≠ 0 := Int.mul_ne_zero hb hd
  have p1 := bot_pos (t := a * e) h1
  have p2 := bot_pos (t := c * e) h2
  have p3 := bot_pos (t := a * d + c * b) h3
  have x1 := cross (t := a * e) h1
  have x2 := cross (t := c * e) h2
  have x3 := cross (t := a * d + c * b) h3
  generalize top (a * e) (b * f) = n1 at *
  generalize bot (a * e) (b * f) = d1 at *
  generalize top (c * e) (d * f) = n2 at *
  generalize bot (c * e) (d * f) = d2 at *
  generalize top (a * d + c * b) (b * d) = n3 at *
  generalize bot (a * d + c * b) (b * d) = d3 at *
  refine same (Int.mul_ne_zero (by omega) (by omega)) (Int.mul_ne_zero (by omega) hf) ?_
  -- (n1 d2 + n2 d1) (d3 f) = (n3 e) (d1 d2)
  refine Int.eq_of_mul_eq_mul_right h3 (Int.eq_of_mul_eq_mul_right hf ?_)
  have L : (n1 * d2 + n2 * d1) * (d3 * f) * (b * d) * f = ((n1 * (b * f)) * (d2 * d * d3) + (n2 * (d * f)) * (d1 * b * d3)) * f := by
    simp only [Int.add_mul, Int.mul_add]
    congr 1 <;> ac_rfl
  have R : n3 * e * (d1 * d2) * (b * d) * f = (n3 * (b * d)) * (e * d1 * d2 * f) := by ac_rfl
  rw [L, R, x1, x2, x3]
  simp only [Int.add_mul, Int.mul_add]
  congr 1 <;> ac_rfl
end RT

set_option Elab.async false
set_option maxRecDepth 100000
namespace RX
open PySem PySem.Spec PyProof.Rows L2
/-- // by a divisor of either sign, below 2 ^ 9000 -/
def CDivZ (_ j : Int) : Prop := j ≠ 0 ∧ j.natAbs.log2 < 9000
theorem op_fdivZ {X : Cx} : OpR X (binaryOp .FloorDiv) (rI CDivZ fun i j => .int (i.fdiv j)) := opI fun _ _ _ _ _ _ _ hc q => floordiv_int hc.1 q (.inl (PyProof.noPylong_of_log2 hc.2))
theorem divZ {i j : Int} {b : Nat} (h : j ≠ 0) (hb : j.natAbs < 2 ^ b) (h0 : 0 < b) (h9 : b ≤ 9000) : CDivZ i j := ⟨h, Nat.lt_of_lt_of_le (PySem.Flt.log2_lt_of h0 hb) h9⟩
/-- the class at C has the operator op as the def at f -/
structure OpOf (K : PySem.W.Frag) (C : Addr) (x : Str) (f : Addr) : Prop where
  first : PySem.W.selfFirst K C = true
  at_ : PySem.W.findIn K (.ref C) x = some (some (.ref f))
  fn : PySem.W.isFn K (.ref f) = true
/-- a op b, both instances of the class at C: what the operator's def promises; it hands back an object -/
def rOwn (C : Addr) (sp : Sp) (E : XK) : R2 := fun x y H Q => ∃ a b dx dy fs gs, x = .ref a ∧ y = .ref b ∧ H a = some (.ins C dx fs) ∧ H b = some (.ins C dy gs) ∧ sp [.ref a, .ref b] H (fun v H' => (∃ c, v = .ref c) ∧ Q v H') E
def rOwn1 (C : Addr) (sp : Sp) (E : XK) : V → Hp → VK → Prop := fun x H Q => ∃ a dx fs, x = .ref a ∧ H a = some (.ins C dx fs) ∧ sp [.ref a] H Q E
section
variable {X : Cx} {CX : CXT} {k : Nat} {C f : Addr} {fd : FuncData} {ps : List Str} {sp : Sp} {E : XK}
theorem op_own {op : Operator} (O : OpOf X.K C (PySem.dunder op.info.2) f) (F : FnOk X.prog X.w X.K X.mg X.base CX k f fd ps sp) (hr : Room k X.A) (hb : Binds X.K fd ps []) (hx : Passes CX X E) : OpR X (binaryOp op) (rOwn C sp E) := by
  intro pins s σ H x y v u Q I rx ry h
  obtain ⟨a, b, dx, dy, fs, gs, rfl, rfl, ha, hb', hs⟩ := h
  cases rx
  cases ry
  obtain ⟨mA, J, _⟩ := ins_get I.hok ha
  obtain ⟨mB, J', _⟩ := ins_get I.hok hb'
  obtain ⟨od, J, _⟩ := J.look
  obtain ⟨od', J', _⟩ := J'.look
  obtain ⟨m, hF⟩ := I.fr
  refine PySem.W.binop_K hF I.ok.mod.kin J J'.type O.first O.at_ O.fn ?_
  refine thn (run_fn (us := [.ref a, .ref b]) (vs := [.ref a, .ref b]) (dvs := []) (ds := []) F hr hb .nil hx I (.cons rfl (.cons rfl .nil)) hs) fun w' s' hq => ?_
  obtain ⟨z, H', I', rz, ⟨c, ez⟩, q⟩ := hq
  subst ez
  cases rz
  exact ⟨.ref c, H', I', rfl, q⟩
theorem un_own {op : UnaryOp} (h1 : op = .USub) (hs : PySem.W.findIn X.K (.ref C) "__neg__" = some (some (.ref f))) (hf : PySem.W.isFn X.K (.ref f) = true) (F : FnOk X.prog X.w X.K X.mg X.base CX k f fd ps sp) (hr : Room k X.A) (hb : Binds X.K fd ps []) (hx : Passes CX X E) : UnR X (unaryOp op) (rOwn1 C sp E) := by
  subst h1
  intro pins s σ H x v Q I rx h
  obtain ⟨a, dx, fs, rfl, ha, hsp⟩ := h
  cases rx
  obtain ⟨mA, J, _⟩ := ins_get I.hok ha
  obtain ⟨od, J, _⟩ := J.look
  obtain ⟨m, hF⟩ := I.fr
  refine PySem.W.ksp_neg hF I.ok.mod.kin J hs hf ?_
  exact run_fn (us := [.ref a]) (vs := [.ref a]) (dvs := []) (ds := []) F hr hb .nil hx I (.cons rfl .nil) hsp
end
end RX

set_option Elab.async false
set_option maxRecDepth 100000
namespace RX
open PySem L2
def topS (i : Nat) : Stmt := PySem.Challenge.pw_wordworth_k03_ratio_refusals.main.body.getD i (.Pass ⟨0, 0, 0, 0⟩)
abbrev sInit : Stmt := inClass (topS 15) 0
abbrev sAdd : Stmt := inClass (topS 15) 1
abbrev sSub : Stmt := inClass (topS 15) 2
abbrev sMul : Stmt := inClass (topS 15) 3
abbrev sNeg : Stmt := inClass (topS 15) 4
/-! ### a Ratio -/
theorem tb : ¬ (("top" : Str) = "bottom") := by decide +kernel
def rf (n d : Int) : List (Str × V) := putF "bottom" (.int d) (putF "top" (.int n) [])
theorem rf_top (n d : Int) : (rf n d).lookup ("top" : Str) = some (.int n) := by
  unfold rf
  rw [lookup_putF, if_neg tb, lookup_putF, if_pos rfl]
theorem rf_bot (n d : Int) : (rf n d).lookup ("bottom" : Str) = some (.int d) := by
  unfold rf
  rw [lookup_putF, if_pos rfl]
theorem rf_no (n d : Int) {m : Str} (h1 : ¬ m = "bottom") (h2 : ¬ m = "top") : (rf n d).lookup m = none := by
  unfold rf
  rw [lookup_putF, if_neg h1, lookup_putF, if_neg h2]
  all_goals rfl
/-- the Ratio n / d stands at p -/
def RatAt (C : Addr) (H : Hp) (p : Addr) (n d : Int) : Prop := ∃ dx, H p = some (.ins C dx (rf n d))
theorem RatAt.same {C : Addr} {H H' : Hp} {p : Addr} {n d : Int} (s : Same H H') (h : RatAt C H p n d) : RatAt C H' p n d := let ⟨dx, e⟩ := h; ⟨dx, s _ _ e⟩
theorem Same.upd {H : Hp} {p : Addr} {o : HO} (h : H p = none) : Same H (upd H p o) := fun b x e => by
  rw [upd_ne (ne_of_none e h)]
  exact e
/-- of at most 4400 bits -/
def Sm (x : Int) : Prop := x.natAbs < 2 ^ 4400
/-- of at most 8900 bits -/
def Md (x : Int) : Prop := x.natAbs < 2 ^ 8900
theorem Sm.mul {x y : Int} (a : Sm x) (b : Sm y) : x.natAbs * y.natAbs < 2 ^ 8800 := by
  have := Nat.mul_lt_mul'' a b
  rw [← Nat.pow_add] at this
  exact this
theorem Sm.w {x y : Int} (a : Sm x) (b : Sm y) : CMulW x y := wide_mul a b (by decide) (by decide) (by decide)
theorem Sm.md {x y : Int} (a : Sm x) (b : Sm y) : Md (x * y) := by
  unfold Md
  rw [Int.natAbs_mul]
  exact Nat.lt_trans (Sm.mul a b) (Nat.pow_lt_pow_right (by decide) (by decide))
/-! ### promises -/
def spInit (C : Addr) : Sp := fun vs H Q _ => ∃ (p dx : Addr) (t b : Int), vs = [.ref p, .int t, .int b] ∧ H p = some (.ins C dx []) ∧ b ≠ 0 ∧ Md b ∧
  ∀ H' : Hp, RatAt C H' p (RT.top t b) (RT.bot t b) → (∀ c o, H c = some o → c ≠ p → H' c = some o) → Q .non H'
/-- of two Ratios: a new one -/
def spBin (C : Addr) (g g' : Int → Int → Int → Int → Int) : Sp := fun vs H Q _ => ∃ (p q : Addr) (n d m e : Int), vs = [.ref p, .ref q] ∧ RatAt C H p n d ∧ RatAt C H q m e ∧ d ≠ 0 ∧ e ≠ 0 ∧ Sm n ∧ Sm d ∧ Sm m ∧ Sm e ∧
  ∀ (r : Addr) (H' : Hp), Same H H' → H r = none → RatAt C H' r (RT.top (g n d m e) (g' n d m e)) (RT.bot (g n d m e) (g' n d m e)) → Q (.ref r) H'
def spAdd (C : Addr) : Sp := spBin C (fun n d m e => n * e + m * d) (fun _ d _ e => d * e)
def spSub (C : Addr) : Sp := spBin C (fun n d m e => n * e - m * d) (fun _ d _ e => d * e)
def spMul (C : Addr) : Sp := spBin C (fun n _ m _ => n * m) (fun _ d _ e => d * e)
def spNeg (C : Addr) : Sp := fun vs H Q _ => ∃ (p : Addr) (n d : Int), vs = [.ref p] ∧ RatAt C H p n d ∧ d ≠ 0 ∧ Sm d ∧
  ∀ (r : Addr) (H' : Hp), Same H H' → H r = none → RatAt C H' r (RT.top (-n) d) (RT.bot (-n) d) → Q (.ref r) H'
structure TxtR (K : PySem.W.Frag) (mg : Str → Option Value) (C : Addr) : Prop where
  cl : Cls K C
  nT : NoAttr K C "top"
  nB : NoAttr K C "bottom"
  mgC : mg "Ratio" = some (.ref C)
  gcd : mg "gcd" = some (.builtin "math.gcd")
section
variable {P : Program} {w : World} {K : PySem.W.Frag} {mg : Str → Option Value} {base : Heap}
theorem scI : FnScope ["self", "top", "bottom", "shared", "by"] ["self", "top", "bottom"] (defScope sInit) := ⟨rfl, rfl, rfl, by decide +kernel, rfl, by decide +kernel, by decide +kernel⟩
theorem ok_init {f C : Addr} {fd : FuncData} (F : FunD K "__init__" "Ratio.__init__" (defArgs sInit) (defBody sInit) (defScope sInit) [.int 1] [] f fd) (T : TxtR K mg C) : FnOk P w K mg base CX0 1 f fd ["self", "top", "bottom"] (spInit C) := by
  refine F.ok scI (fun vs H Q E h => ?_) (fun cdv A outer s H vs Q E hr h => ?_)
  · obtain ⟨p, dx, t, b, rfl, _⟩ := h
    rfl
  · obtain ⟨p, dx, t, b, rfl, hp, hb, hz, k⟩ := h
    refine ⟨_, pss_cons (ps_if (pt_cmpR op_eq (pv 2) pe_int (nomark _)) (pss_one ps_never) pss_nil)
      (pss_cons (ps_set (i := 3) scI.nd rfl (Or.inl rfl) (pe_callBfun cr_gcd (by rfl) T.gcd (pa_cons (pv 1) (pa_cons (pv 2) pa_nil))))
      (pss_cons (ps_set (i := 4) scI.nd rfl (Or.inl rfl) (pe_ifExp (pt_cmpR op_gt (pv 2) pe_int (nomark _)) (pv 3) (pe_un un_neg (pv 3))))
      (pss_cons (ps_fld (pv 0) (pe_op op_fdivZ (pv 1) (pv 4)) rfl)
      (pss_one (ps_fld (pv 0) (pe_op op_fdivZ (pv 2) (pv 4)) rfl))))), ?_⟩
    refine ⟨_, rfl, rfl, _, rfl, ?_⟩
    refine ite2 (fun z => ?_) (fun _ => ?_)
    · have z' := of_decide_eq_true z
      injection z' with z'
      exact absurd z' hb
    refine ⟨_, rfl, _, rfl, t, b, rfl, ?_⟩
    refine ⟨_, rfl, _, _, rfl, rfl, _, rfl, ?_⟩
    have by_ne := RT.byv_ne (t := t) hb
    have by_le := RT.byv_le (t := t) hb
    have hdiv : ∀ x y : Int, y = RT.byv t b → CDivZ x y := fun x y e => by
      subst e
      exact divZ by_ne (Nat.lt_of_le_of_lt by_le hz) (by decide) (by decide)
    have key : (if decide (b > 0) = true then RT.gg t b else -RT.gg t b) = RT.byv t b := by
      unfold RT.byv
      by_cases h0 : b > 0
      · rw [if_pos h0, if_pos (decide_eq_true h0)]
      · rw [if_neg h0, if_neg (by rw [decide_eq_false h0]; exact Bool.false_ne_true)]
    have fin : ∀ x : Int, x = RT.byv t b → Q .non (upd (upd H p (.ins C dx (putF "top" (.int (t.fdiv x)) []))) p (.ins C dx (putF "bottom" (.int (b.fdiv x)) (putF "top" (.int (t.fdiv x)) [])))) := fun x e => by
      subst e
      refine k _ ⟨dx, upd_same⟩ fun c o hc ne => ?_
      rw [upd_ne ne, upd_ne ne]
      exact hc
    refine ite2 (fun z => ?_) (fun z => ?_)
    · rw [if_pos z] at key
      refine ⟨_, rfl, _, rfl, _, rfl, _, _, rfl, rfl, (hdiv t _ key), _, rfl, p, C, dx, [], rfl, hp, T.cl, T.nT, (by show 0 < 1000; decide), ?_⟩
      exact ⟨_, rfl, _, rfl, _, _, rfl, rfl, (hdiv b _ key), _, rfl, p, C, dx, _, rfl, upd_same, T.cl, T.nB, (by show 1 < 1000; decide), fin _ key⟩
    · rw [if_neg z] at key
      refine ⟨_, rfl, _, rfl, _, rfl, _, rfl, _, _, rfl, rfl, (hdiv t _ key), _, rfl, p, C, dx, [], rfl, hp, T.cl, T.nT, (by show 0 < 1000; decide), ?_⟩
      exact ⟨_, rfl, _, rfl, _, _, rfl, rfl, (hdiv b _ key), _, rfl, p, C, dx, _, rfl, upd_same, T.cl, T.nB, (by show 1 < 1000; decide), fin _ key⟩
/-- Ratio(t, b), both written: the rule's own question answered -/
theorem make_in {C : Addr} {H : Hp} {t b : Int} {Q : VK} {E : XK} (hb : b ≠ 0) (hz : Md b) (k : ∀ (r : Addr) (H' : Hp), Same H H' → H r = none → RatAt C H' r (RT.top t b) (RT.bot t b) → Q (.ref r) H') :
    ∀ x dx, H x = none → H dx = none → dx ≠ x → spInit C (.ref x :: ([.int t, .int b] ++ [])) (upd (upd H dx (.own x)) x (.ins C dx [])) (fun v H2 => v = .non ∧ Q (.ref x) H2) E := by
  intro x dx nx nd ne
  exact ⟨x, dx, t, b, rfl, upd_same, hb, hz, fun H' hR kp => ⟨rfl, k x H' (Same.made nx nd kp) nx hR⟩⟩
theorem scA : FnScope ["self", "other", "top"] ["self", "other"] (defScope sAdd) := ⟨rfl, rfl, rfl, by decide +kernel, rfl, by decide +kernel, by decide +kernel⟩
theorem scS : FnScope ["self", "other", "top"] ["self", "other"] (defScope sSub) := ⟨rfl, rfl, rfl, by decide +kernel, rfl, by decide +kernel, by decide +kernel⟩
theorem scM : FnScope ["self", "other"] ["self", "other"] (defScope sMul) := ⟨rfl, rfl, rfl, by decide +kernel, rfl, by decide +kernel, by decide +kernel⟩
theorem scN : FnScope ["self"] ["self"] (defScope sNeg) := ⟨rfl, rfl, rfl, by decide +kernel, rfl, by decide +kernel, by decide +kernel⟩
section
variable {f fI C : Addr} {fd fdI : FuncData} {k : Nat} (T : TxtR K mg C) (M : Mk K C fI) (GI : FnOk P w K mg base CX0 1 fI fdI ["self", "top", "bottom"] (spInit C)) (bI : Binds K fdI ["self", "top", "bottom"] [])
include T M GI bI
theorem ok_add (F : Fun K "__add__" "Ratio.__add__" sAdd f fd) : FnOk P w K mg base CX0 3 f fd ["self", "other"] (spAdd C) := by
  refine F.ok scA (fun vs H Q E h => ?_) (fun cdv A outer s H vs Q E hr h => ?_)
  · obtain ⟨p, q, n, d, m, e, rfl, _⟩ := h
    rfl
  · obtain ⟨p, q, n, d, m, e, rfl, ⟨dx, hp⟩, ⟨dy, hq⟩, hd, he, sn, sd, sm, se, kk⟩ := h
    refine ⟨_, pss_cons (ps_set (i := 2) scA.nd rfl (Or.inl rfl) (pe_op op_add (pe_op op_mulW (pe_fld (pv 0) rfl) (pe_fld (pv 1) rfl)) (pe_op op_mulW (pe_fld (pv 1) rfl) (pe_fld (pv 0) rfl))))
      (pss_one (ps_ret (pe_make M GI hr rfl T.mgC bI .nil pass0 (pa_cons (pv 2) (pa_cons (pe_op op_mulW (pe_fld (pv 0) rfl) (pe_fld (pv 1) rfl)) pa_nil))))), ?_⟩
    refine ⟨_, rfl, p, C, dx, _, _, rfl, hp, T.cl, T.nT, rf_top _ _, _, rfl, q, C, dy, _, _, rfl, hq, T.cl, T.nB, rf_bot _ _, _, _, rfl, rfl, Sm.w sn se,
      _, rfl, q, C, dy, _, _, rfl, hq, T.cl, T.nT, rf_top _ _, _, rfl, p, C, dx, _, _, rfl, hp, T.cl, T.nB, rf_bot _ _, _, _, rfl, rfl, Sm.w sm sd, _, _, rfl, rfl, ?_⟩
    refine ⟨_, rfl, _, rfl, p, C, dx, _, _, rfl, hp, T.cl, T.nB, rf_bot _ _, _, rfl, q, C, dy, _, _, rfl, hq, T.cl, T.nB, rf_bot _ _, _, _, rfl, rfl, Sm.w sd se, ?_⟩
    exact make_in (Int.mul_ne_zero hd he) (Sm.md sd se) kk
theorem ok_sub (F : Fun K "__sub__" "Ratio.__sub__" sSub f fd) : FnOk P w K mg base CX0 3 f fd ["self", "other"] (spSub C) := by
  refine F.ok scS (fun vs H Q E h => ?_) (fun cdv A outer s H vs Q E hr h => ?_)
  · obtain ⟨p, q, n, d, m, e, rfl, _⟩ := h
    rfl
  · obtain ⟨p, q, n, d, m, e, rfl, ⟨dx, hp⟩, ⟨dy, hq⟩, hd, he, sn, sd, sm, se, kk⟩ := h
    refine ⟨_, pss_cons (ps_set (i := 2) scS.nd rfl (Or.inl rfl) (pe_op op_sub (pe_op op_mulW (pe_fld (pv 0) rfl) (pe_fld (pv 1) rfl)) (pe_op op_mulW (pe_fld (pv 1) rfl) (pe_fld (pv 0) rfl))))
      (pss_one (ps_ret (pe_make M GI hr rfl T.mgC bI .nil pass0 (pa_cons (pv 2) (pa_cons (pe_op op_mulW (pe_fld (pv 0) rfl) (pe_fld (pv 1) rfl)) pa_nil))))), ?_⟩
    refine ⟨_, rfl, p, C, dx, _, _, rfl, hp, T.cl, T.nT, rf_top _ _, _, rfl, q, C, dy, _, _, rfl, hq, T.cl, T.nB, rf_bot _ _, _, _, rfl, rfl, Sm.w sn se,
      _, rfl, q, C, dy, _, _, rfl, hq, T.cl, T.nT, rf_top _ _, _, rfl, p, C, dx, _, _, rfl, hp, T.cl, T.nB, rf_bot _ _, _, _, rfl, rfl, Sm.w sm sd, _, _, rfl, rfl, ?_⟩
    refine ⟨_, rfl, _, rfl, p, C, dx, _, _, rfl, hp, T.cl, T.nB, rf_bot _ _, _, rfl, q, C, dy, _, _, rfl, hq, T.cl, T.nB, rf_bot _ _, _, _, rfl, rfl, Sm.w sd se, ?_⟩
    exact make_in (Int.mul_ne_zero hd he) (Sm.md sd se) kk
theorem ok_mul (F : Fun K "__mul__" "Ratio.__mul__" sMul f fd) : FnOk P w K mg base CX0 3 f fd ["self", "other"] (spMul C) := by
  refine F.ok scM (fun vs H Q E h => ?_) (fun cdv A outer s H vs Q E hr h => ?_)
  · obtain ⟨p, q, n, d, m, e, rfl, _⟩ := h
    rfl
  · obtain ⟨p, q, n, d, m, e, rfl, ⟨dx, hp⟩, ⟨dy, hq⟩, hd, he, sn, sd, sm, se, kk⟩ := h
    refine ⟨_, pss_one (ps_ret (pe_make M GI hr rfl T.mgC bI .nil pass0 (pa_cons (pe_op op_mulW (pe_fld (pv 0) rfl) (pe_fld (pv 1) rfl)) (pa_cons (pe_op op_mulW (pe_fld (pv 0) rfl) (pe_fld (pv 1) rfl)) pa_nil)))), ?_⟩
    refine ⟨_, rfl, p, C, dx, _, _, rfl, hp, T.cl, T.nT, rf_top _ _, _, rfl, q, C, dy, _, _, rfl, hq, T.cl, T.nT, rf_top _ _, _, _, rfl, rfl, Sm.w sn sm, ?_⟩
    refine ⟨_, rfl, p, C, dx, _, _, rfl, hp, T.cl, T.nB, rf_bot _ _, _, rfl, q, C, dy, _, _, rfl, hq, T.cl, T.nB, rf_bot _ _, _, _, rfl, rfl, Sm.w sd se, ?_⟩
    exact make_in (Int.mul_ne_zero hd he) (Sm.md sd se) kk
theorem ok_neg (F : Fun K "__neg__" "Ratio.__neg__" sNeg f fd) : FnOk P w K mg base CX0 3 f fd ["self"] (spNeg C) := by
  refine F.ok scN (fun vs H Q E h => ?_) (fun cdv A outer s H vs Q E hr h => ?_)
  · obtain ⟨p, n, d, rfl, _⟩ := h
    rfl
  · obtain ⟨p, n, d, rfl, ⟨dx, hp⟩, hd, sd, kk⟩ := h
    refine ⟨_, pss_one (ps_ret (pe_make M GI hr rfl T.mgC bI .nil pass0 (pa_cons (pe_un un_neg (pe_fld (pv 0) rfl)) (pa_cons (pe_fld (pv 0) rfl) pa_nil)))), ?_⟩
    refine ⟨_, rfl, p, C, dx, _, _, rfl, hp, T.cl, T.nT, rf_top _ _, _, rfl, ?_⟩
    refine ⟨_, rfl, p, C, dx, _, _, rfl, hp, T.cl, T.nB, rf_bot _ _, ?_⟩
    exact make_in hd (Nat.lt_trans sd (Nat.pow_lt_pow_right (by decide) (by decide))) kk
end
end
end RX

set_option Elab.async false
set_option maxRecDepth 100000
namespace RX
open PySem L2
/-! ### the draws -/
abbrev sFeed : Stmt := topS 17
abbrev sDraw : Stmt := topS 18
abbrev sGreat : Stmt := topS 19
/-- the feed stands at a: its cells, the next place, what is left of a great cell, the seed -/
structure FeedIs (H : Hp) (a cl : Addr) (cs : List Int) (i p s : Int) : Prop where
  hA : H a = some (.lst [.ref cl, .int i, .int p, .int s])
  hC : H cl = some (.lst (cs.map V.int))
  ne : cl ≠ a
  i0 : 0 ≤ i
  p0 : 0 ≤ p
  s0 : 0 ≤ s
  s1 : s < 2147483648
  len : cs.length ≤ 63
  nn : ∀ c ∈ cs, 0 ≤ c
def FeedAt (H : Hp) (a cl : Addr) : Prop := ∃ cs i p s, FeedIs H a cl cs i p s
/-- all but what stands at a is as it was -/
def But (a : Addr) (H H' : Hp) : Prop := ∀ b o, H b = some o → b ≠ a → H' b = some o
theorem But.refl (a : Addr) (H : Hp) : But a H H := fun _ _ h _ => h
theorem But.trans {a : Addr} {H H1 H2 : Hp} (x : But a H H1) (y : But a H1 H2) : But a H H2 := fun b o h n => y b o (x b o h n) n
theorem Same.but {a : Addr} {H H1 : Hp} (x : Same H H1) : But a H H1 := fun b o h _ => x b o h
theorem But.upd (a : Addr) (H : Hp) (o : HO) : But a H (L2.upd H a o) := fun b o' h n => by rw [upd_ne n]; exact h
theorem FeedIs.same {H H' : Hp} {a cl : Addr} {cs : List Int} {i p s : Int} (h : FeedIs H a cl cs i p s) (x : Same H H') : FeedIs H' a cl cs i p s :=
  ⟨x _ _ h.hA, x _ _ h.hC, h.ne, h.i0, h.p0, h.s0, h.s1, h.len, h.nn⟩
theorem FeedAt.same {H H' : Hp} {a cl : Addr} (h : FeedAt H a cl) (x : Same H H') : FeedAt H' a cl := let ⟨cs, i, p, s, f⟩ := h; ⟨cs, i, p, s, f.same x⟩
/-- the feed's list written anew -/
theorem FeedIs.put {H : Hp} {a cl : Addr} {cs : List Int} {i p s i' p' s' : Int} (h : FeedIs H a cl cs i p s) (i0 : 0 ≤ i') (p0 : 0 ≤ p') (s0 : 0 ≤ s') (s1 : s' < 2147483648) :
    FeedIs (upd H a (.lst [.ref cl, .int i', .int p', .int s'])) a cl cs i' p' s' :=
  ⟨upd_same, by rw [upd_ne h.ne]; exact h.hC, h.ne, i0, p0, s0, s1, h.len, h.nn⟩
def spFeed (K : PySem.W.Frag) : Sp := fun vs H Q _ => ∃ (a : Addr) (ns : List Int), vs = [.ref a] ∧ SqL K H a (ns.map V.int) ∧ ns.length ≤ 63 ∧ ∀ (r cl : Addr) (H' : Hp), Same H H' → H r = none → H cl = none → FeedAt H' r cl → Q (.ref r) H'
def spDraw : Sp := fun vs H Q _ => ∃ (a cl : Addr) (m : Int), vs = [.ref a, .int m] ∧ FeedAt H a cl ∧ 0 < m ∧ m < 1073741824 ∧ ∀ (r : Int) (H' : Hp), 0 ≤ r → r < m → FeedAt H' a cl → But a H H' → Q (.int r) H'
def spGreat : Sp := fun vs H Q _ => ∃ (a cl : Addr) (m : Int), vs = [.ref a, .int m] ∧ FeedAt H a cl ∧ 0 ≤ m ∧ m ≤ 100 ∧ ∀ (r : Int) (H' : Hp), 0 ≤ r → r < 100000 ^ m.toNat → FeedAt H' a cl → But a H H' → Q (.int r) H'
structure TxtL (mg : Str → Option Value) : Prop where
  abs : mg "abs" = none
  len : mg "len" = none
  int : mg "int" = none
  max : mg "max" = none
  range : mg "range" = none
  isi : mg "isinstance" = none
  bool : mg "bool" = none
section
variable {P : Program} {w : World} {K : PySem.W.Frag} {mg : Str → Option Value} {base : Heap}
theorem scFe : FnScope ["script", "cell"] ["script"] (defScope sFeed) := ⟨rfl, rfl, rfl, by decide +kernel, rfl, by decide +kernel, by decide +kernel⟩
theorem cut63 (xs : List V) (h : xs.length ≤ 63) : cutV xs none (some 63) = xs := by
  unfold cutV
  rw [show HT.sIx xs.length xs.length (some 63) = min 63 xs.length from HT.sIx_nat xs.length xs.length 63, HT.sIx_none, Nat.min_eq_right h, List.drop_zero, Nat.sub_zero]
  exact List.take_length
theorem ok_feed {f : Addr} {fd : FuncData} (F : Fun K "_law_feed" "_law_feed" sFeed f fd) (T : TxtL mg) : FnOk P w K mg base CX0 1 f fd ["script"] (spFeed K) := by
  refine F.ok scFe (fun vs H Q E h => ?_) (fun cdv A outer s H vs Q E hr h => ?_)
  · obtain ⟨a, ns, rfl, _⟩ := h
    rfl
  · obtain ⟨a, ns, rfl, hS, hl, k⟩ := h
    refine ⟨_, pss_one (ps_ret (pe_lst (pa_cons (pe_lc (own := [("cell", 1)]) (g := gName 1) (tt := tYes) rfl scFe.nd (pi_list (pe_slice sl_list (pv 0) po_none (po_some pe_int))) (blkOk_by (N := ["script", "cell"]) (sc := defScope sFeed) (by decide +kernel))
        (fun _ _ _ _ _ => pg_name (i := 1) scFe.nd rfl (Or.inl rfl)) (fun _ _ _ _ _ => pts_nil) (fun _ _ _ _ _ => pe_callB call_abs (by rfl) T.abs (by decide +kernel) (pa_cons (pv 1) pa_nil)))
      (pa_cons pe_int (pa_cons pe_int (pa_cons (pe_op op_add pe_int (pe_callB call_len_seq (by rfl) T.len PySem.boot_len (pa_cons (pv 0) pa_nil))) pa_nil)))))), ?_⟩
    refine ⟨.ref a, rfl, 63, rfl, a, ns.map V.int, rfl, hS, fun c nc => ?_⟩
    rw [cut63 _ (by rw [List.length_map]; exact hl)]
    have s1 : Same H (upd H c (.lst (ns.map V.int))) := Same.upd nc
    refine ⟨c, rfl, ⟨_, SqL.of upd_same⟩, fun D nD => ?_⟩
    have ncD : c ≠ D := ne_of_none upd_same nD
    have nD0 : H D = none := s1.free nD
    refine lc_list (K := K) (a := c) (xs := ns.map V.int) (fun i H2 => Same H H2 ∧ H2 c = some (.lst (ns.map V.int)) ∧ H2 D = some (.lst (((ns.take i).map fun z => if z < 0 then -z else z).map V.int))) ⟨s1.trans (Same.upd nD), by rw [upd_ne ncD]; exact upd_same, upd_same⟩ (fun i H2 _ h => SqL.of h.2.1) ?_ ?_
    · rintro i x H2 hi ⟨s2, hq, hD⟩
      obtain ⟨z, hz, rfl⟩ : ∃ z, ns[i]? = some z ∧ V.int z = x := by
        rw [List.getElem?_map] at hi
        cases e : ns[i]? with
        | none => rw [e] at hi; cases hi
        | some z => rw [e] at hi; exact ⟨z, rfl, Option.some.inj hi⟩
      have hi63 : i < ns.length := (List.getElem?_eq_some_iff.mp hz).1
      refine ⟨rfl, ?_⟩
      refine ⟨_, rfl, z, rfl, _, hD, ?_, ?_⟩
      · rw [List.length_map, List.length_map, List.length_take]
        exact Nat.lt_of_le_of_lt (Nat.min_le_left _ _) (small1000 (by omega))
      · refine ⟨fun b o e => ?_, by rw [upd_ne ncD]; exact hq, ?_⟩
        · rw [upd_ne (ne_of_none e nD0)]
          exact s2 _ _ e
        · rw [upd_same, List.take_add_one, hz, List.map_append, List.map_append]
          rfl
    · rintro H2 ⟨s2, hq, hD⟩
      rw [List.length_map, List.take_length] at hD
      refine ⟨_, rfl, a, _, rfl, .inl (s2.seq hS), _, _, rfl, rfl, (by show 4 ≤ sizeLine; decide), fun r nr => ?_⟩
      have nDr : D ≠ r := ne_of_none hD nr
      refine k r D _ (s2.trans (Same.upd nr)) (s2.free nr) nD0 ⟨ns.map fun z => if z < 0 then -z else z, 0, 0, _, upd_same, by rw [upd_ne nDr]; exact hD, nDr, by omega, by omega, ?_, ?_, ?_, ?_⟩
      · rw [List.length_map]; omega
      · rw [List.length_map]; omega
      · rw [List.length_map]; exact hl
      · intro c hc
        obtain ⟨z, _, rfl⟩ := List.mem_map.mp hc
        show (0 : Int) ≤ if z < 0 then -z else z
        split <;> omega
theorem scDr : FnScope ["feed", "limit", "cells", "cell", "found"] ["feed", "limit"] (defScope sDraw) := ⟨rfl, rfl, rfl, by decide +kernel, rfl, by decide +kernel, by decide +kernel⟩
theorem ok_draw {f : Addr} {fd : FuncData} (F : Fun K "_law_draw" "_law_draw" sDraw f fd) (T : TxtL mg) : FnOk P w K mg base CX0 1 f fd ["feed", "limit"] spDraw := by
  refine F.ok scDr (fun vs H Q E h => ?_) (fun cdv A outer s H vs Q E hr h => ?_)
  · obtain ⟨a, cl, m, rfl, _⟩ := h
    rfl
  · obtain ⟨a, cl, m, rfl, ⟨cs, i, p, s, f0⟩, hm, hm2, k⟩ := h
    refine ⟨_, pss_cons (ps_set (i := 2) scDr.nd rfl (.inl rfl) (pe_ix ix_list (pv 0) pe_int (fun _ _ => rfl)))
      (C8.pss_cut (ps_if (PW.pt (pw_and (pt_cmpR op_eq (pe_ix ix_list (pv 0) pe_int (fun _ _ => rfl)) pe_int (nomark _)) (pw_and1 (pt_cmpR op_lt (pe_ix ix_list (pv 0) pe_int (fun _ _ => rfl)) (pe_callB call_len_seq (by rfl) T.len PySem.boot_len (pa_cons (pv 2) pa_nil)) (nomark _)))))
        (pss_cons (ps_set (i := 3) scDr.nd rfl (.inl rfl) (pe_ix ix_list (pv 2) (pe_ix ix_list (pv 0) pe_int (fun _ _ => rfl)) (fun _ _ => rfl)))
        (pss_cons (ps_asg (pe_op op_add (pe_ix ix_list (pv 0) pe_int (fun _ _ => rfl)) pe_int) (pg_sub (pv 0) pe_int set_list))
        (pss_one (ps_if (pt_cmpR op_ge (pv 3) (pe_op op_pow pe_int pe_int) (nomark _))
          (pss_one (ps_asg (pv 3) (pg_sub (pv 0) pe_int set_list)))
          (pss_one (ps_asg (pe_op op_mod (pe_callTy call_int1 (by rfl) T.int (by decide +kernel) (pa_cons (pe_op op_add (pe_op op_add (pe_op op_mul (pe_ix ix_list (pv 0) pe_int (fun _ _ => rfl)) pe_int) (pe_op op_mul (pv 3) pe_int)) pe_int) pa_nil)) pe_int) (pg_sub (pv 0) pe_int set_list)))))))
        pss_nil)
      (C8.pss_cut (ps_if (pt_cmpR op_gt (pe_ix ix_list (pv 0) pe_int (fun _ _ => rfl)) pe_int (nomark _))
        (pss_cons (ps_set (i := 4) scDr.nd rfl (.inl rfl) (pe_op op_mod (pe_callTy call_int1 (by rfl) T.int (by decide +kernel) (pa_cons (pe_ix ix_list (pv 0) pe_int (fun _ _ => rfl)) pa_nil)) (pv 1)))
        (pss_cons (ps_asg (pe_op op_fdiv (pe_ix ix_list (pv 0) pe_int (fun _ _ => rfl)) (pv 1)) (pg_sub (pv 0) pe_int set_list))
        (pss_one (ps_ret (pv 4)))))
        pss_nil)
      (pss_cons (ps_asg (pe_op op_mod (pe_callTy call_int1 (by rfl) T.int (by decide +kernel) (pa_cons (pe_op op_add (pe_op op_mul (pe_ix ix_list (pv 0) pe_int (fun _ _ => rfl)) pe_int) pe_int) pa_nil)) pe_int) (pg_sub (pv 0) pe_int set_list))
      (pss_one (ps_ret (pe_op op_mod (pe_callTy call_int1 (by rfl) T.int (by decide +kernel) (pa_cons (pe_op op_add (pe_op op_fdiv (pe_op op_mul (pe_ix ix_list (pv 0) pe_int (fun _ _ => rfl)) (pe_ix ix_list (pv 0) pe_int (fun _ _ => rfl))) pe_int) (pe_op op_fdiv (pe_ix ix_list (pv 0) pe_int (fun _ _ => rfl)) pe_int)) pa_nil)) (pv 1))))))), ?_⟩
    -- cells = feed[0]
    refine ⟨_, rfl, a, _, 0, _, rfl, rfl, SqL.of f0.hA, rfl, ?_⟩
    -- behind the first if: the feed again
    refine ⟨fun σ' H' => ∃ x2 x3 x4, σ' = [some (.ref a), some (.int m), x2, x3, x4] ∧ FeedAt H' a cl ∧ But a H H', ?_, ?_⟩
    · refine ⟨_, rfl, a, _, 2, _, rfl, rfl, SqL.of f0.hA, rfl, rfl, _, rfl, ?_⟩
      refine ite2 (fun _ => ?_) (fun _ => ?_)
      · refine ⟨_, rfl, a, _, 1, _, rfl, rfl, SqL.of f0.hA, rfl, _, rfl, cl, _, rfl, .inl (SqL.of f0.hC), _, _, rfl, rfl, _, rfl, ?_⟩
        refine ite2 (fun z => ?_) (fun _ => ?_)
        · have z := of_decide_eq_true z
          rw [List.length_map] at z
          have hi : (i.toNat : Int) = i := Int.toNat_of_nonneg f0.i0
          have hlt : i.toNat < cs.length := by omega
          have hc : (cs.map V.int)[i.toNat]? = some (V.int cs[i.toNat]) := by
            rw [List.getElem?_map, List.getElem?_eq_getElem hlt]
            rfl
          have c0 : 0 ≤ cs[i.toNat] := f0.nn _ (List.getElem_mem hlt)
          generalize hcv : cs[i.toNat] = cv at hc c0
          have f1 := f0.put (i' := i + 1) (by have := f0.i0; omega) f0.p0 f0.s0 f0.s1
          refine ⟨_, rfl, _, rfl, a, _, 1, _, rfl, rfl, SqL.of f0.hA, rfl, cl, _, i, _, rfl, rfl, SqL.of f0.hC, at_of hi.symm hc, ?_⟩
          refine ⟨_, rfl, a, _, 1, _, rfl, rfl, SqL.of f0.hA, rfl, _, _, rfl, rfl, _, rfl, a, _, _, 1, rfl, rfl, f0.hA, rfl, ?_⟩
          refine ⟨_, rfl, _, _, rfl, rfl, (by show (0 : Int) ≤ 18 ∧ (18 : Int) ≤ 1000000 ∧ (10 : Int).natAbs < 2 ^ 64; decide), _, _, rfl, rfl, _, rfl, ?_⟩
          refine ite2 (fun _ => ?_) (fun _ => ?_)
          · refine ⟨_, rfl, _, rfl, a, _, _, 2, rfl, rfl, upd_same, rfl, ?_⟩
            exact ⟨_, _, _, rfl, ⟨cs, _, _, _, f1.put (i' := i + 1) (p' := cv) (s' := s) (by have := f0.i0; omega) c0 f0.s0 f0.s1⟩, (But.upd a H _).trans (But.upd a _ _)⟩
          · refine ⟨_, rfl, a, _, 3, _, rfl, rfl, SqL.of upd_same, rfl, _, _, rfl, rfl, .inr (by decide), _, rfl, _, _, rfl, rfl, .inr (by decide), _, _, rfl, rfl, _, _, rfl, rfl, .inl ⟨_, rfl, _, _, rfl, rfl, (by show (0 : Int) < 2147483647; decide), _, rfl, a, _, _, 3, rfl, rfl, upd_same, rfl, ?_⟩⟩
            refine ⟨_, _, _, rfl, ⟨cs, _, _, _, f1.put (i' := i + 1) (p' := p) (by have := f0.i0; omega) f0.p0 (Int.emod_nonneg _ (by decide)) (Int.lt_trans (Int.emod_lt_of_pos _ (by decide)) (by decide))⟩, (But.upd a H _).trans (But.upd a _ _)⟩
        · exact ⟨_, _, _, rfl, ⟨cs, i, p, s, f0⟩, But.refl a H⟩
      · exact ⟨_, _, _, rfl, ⟨cs, i, p, s, f0⟩, But.refl a H⟩
    · rintro σ' H1 ⟨x2, x3, x4, rfl, ⟨cs, i, p, s, f1⟩, b1⟩
      refine ⟨fun σ' H' => ∃ x2 x3 x4, σ' = [some (.ref a), some (.int m), x2, x3, x4] ∧ FeedAt H' a cl ∧ But a H H', ?_, ?_⟩
      · refine ⟨_, rfl, a, _, 2, _, rfl, rfl, SqL.of f1.hA, rfl, _, _, rfl, rfl, _, rfl, ?_⟩
        refine ite2 (fun z => ?_) (fun _ => ?_)
        · refine ⟨_, rfl, a, _, 2, _, rfl, rfl, SqL.of f1.hA, rfl, .inl ⟨_, rfl, _, rfl, _, _, rfl, rfl, hm, ?_⟩⟩
          refine ⟨_, rfl, a, _, 2, _, rfl, rfl, SqL.of f1.hA, rfl, _, rfl, _, _, rfl, rfl, ⟨hm, hm2⟩, _, rfl, a, _, _, 2, rfl, rfl, f1.hA, rfl, ?_⟩
          refine ⟨_, rfl, ?_⟩
          exact k _ _ (Int.emod_nonneg _ (by omega)) (Int.emod_lt_of_pos _ hm) ⟨cs, _, _, _, f1.put (i' := i) (s' := s) f1.i0 (Int.ediv_nonneg f1.p0 (by omega)) f1.s0 f1.s1⟩ (b1.trans (But.upd a _ _))
        · exact ⟨_, _, _, rfl, ⟨cs, i, p, s, f1⟩, b1⟩
      · rintro σ' H2 ⟨x2, x3, x4, rfl, ⟨cs, i, p, s, f2⟩, b2⟩
        refine ⟨_, rfl, a, _, 3, _, rfl, rfl, SqL.of f2.hA, rfl, _, _, rfl, rfl, .inr (by decide), _, _, rfl, rfl, .inl ⟨_, rfl, _, _, rfl, rfl, (by show (0 : Int) < 2147483629; decide), _, rfl, a, _, _, 3, rfl, rfl, f2.hA, rfl, ?_⟩⟩
        have e0 := Int.emod_nonneg (s * 16807 + 12345) (show (2147483629 : Int) ≠ 0 by decide)
        have e1 := Int.emod_lt_of_pos (s * 16807 + 12345) (show (0 : Int) < 2147483629 by decide)
        have f3 := f2.put (i' := i) (p' := p) (s' := (s * 16807 + 12345) % 2147483629) f2.i0 f2.p0 e0 (by omega)
        refine ⟨_, rfl, a, _, 3, _, rfl, rfl, SqL.of upd_same, rfl, _, rfl, a, _, 3, _, rfl, rfl, SqL.of upd_same, rfl, _, _, rfl, rfl, .inl ⟨by omega, by omega⟩, _, _, rfl, rfl, ⟨by decide, by decide⟩,
          _, rfl, a, _, 3, _, rfl, rfl, SqL.of upd_same, rfl, _, _, rfl, rfl, ⟨by decide, by decide⟩, _, _, rfl, rfl, .inl ⟨_, rfl, _, rfl, _, _, rfl, rfl, hm, ?_⟩⟩
        exact k _ _ (Int.emod_nonneg _ (by omega)) (Int.emod_lt_of_pos _ hm) ⟨cs, _, _, _, f3⟩ (b2.trans (But.upd a _ _))
end
end RX

set_option Elab.async false
set_option maxRecDepth 100000
namespace RX
open PySem L2
abbrev sPair : Stmt := topS 20
/-- a pair of ints stands at p -/
def PairAt (H : Hp) (p : Addr) (n d : Int) : Prop := H p = some (.tup [.int n, .int d])
theorem PairAt.same {H H' : Hp} {p : Addr} {n d : Int} (h : PairAt H p n d) (s : Same H H') : PairAt H' p n d := s _ _ h
theorem PairAt.t {K : PySem.W.Frag} {H : Hp} {p : Addr} {n d : Int} (h : PairAt H p n d) : SqT K H p [.int n, .int d] := SqT.of h
def spPair : Sp := fun vs H Q _ => ∃ (t b : Int), vs = [.int t, .int b] ∧ b ≠ 0 ∧ Md b ∧ ∀ (r : Addr) (H' : Hp), Same H H' → H r = none → PairAt H' r (RT.top t b) (RT.bot t b) → Q (.ref r) H'
theorem But.free {a cl : Addr} {H H1 : Hp} {r : Addr} (x : But a H H1) (h : H1 r = none) (f : FeedAt H1 a cl) : H r = none := by
  cases q : H r with
  | none => rfl
  | some o =>
    by_cases e : r = a
    · subst e
      obtain ⟨cs, i, p, s, f⟩ := f
      rw [f.hA] at h
      cases h
    · rw [x r o q e] at h
      cases h
/-- a def of the law that is called by its name -/
structure CalN (P : Program) (w : World) (K : PySem.W.Frag) (mg : Str → Option Value) (base : Heap) (x : Str) (k : Nat) (ps : List Str) (sp : Sp) (f : Addr) (fd : FuncData) : Prop where
  G : FnOk P w K mg base CX0 k f fd ps sp
  m : mg x = some (.ref f)
  kp : PySem.W.keepIn K (.ref f) = true
  b : Binds K fd ps []
/-- of at most 500 bits -/
def Ti (x : Int) : Prop := x.natAbs < 2 ^ 500
theorem pw {a b : Nat} (h : a ≤ b) {x : Nat} (hx : x < 2 ^ a) : x < 2 ^ b := Nat.lt_of_lt_of_le hx (Nat.pow_le_pow_right (by decide) h)
theorem mulB {x y : Int} {a b : Nat} (ha : x.natAbs < 2 ^ a) (hb : y.natAbs < 2 ^ b) : (x * y).natAbs < 2 ^ (a + b) := wide_lt ha hb
theorem addB {x y : Int} {a : Nat} (ha : x.natAbs < 2 ^ a) (hb : y.natAbs < 2 ^ a) : (x + y).natAbs < 2 ^ (a + 1) := by
  have := Int.natAbs_add_le x y
  rw [Nat.pow_succ]
  omega
theorem topB {t b : Int} {a : Nat} (h : b ≠ 0) (ha : t.natAbs < 2 ^ a) : (RT.top t b).natAbs < 2 ^ a := Nat.lt_of_le_of_lt (RT.top_le h) ha
theorem botB {t b : Int} {a : Nat} (h : b ≠ 0) (ha : b.natAbs < 2 ^ a) : (RT.bot t b).natAbs < 2 ^ a := Nat.lt_of_le_of_lt (RT.bot_le h) ha
theorem botN {t b : Int} (h : b ≠ 0) : RT.bot t b ≠ 0 := by have := RT.bot_pos (t := t) h; omega
section
variable {P : Program} {w : World} {K : PySem.W.Frag} {mg : Str → Option Value} {base : Heap}
theorem scG : FnScope ["feed", "parts", "found", "k"] ["feed", "parts"] (defScope sGreat) := ⟨rfl, rfl, rfl, by decide +kernel, rfl, by decide +kernel, by decide +kernel⟩
theorem ok_great {f fD : Addr} {fd fdD : FuncData} (F : Fun K "_law_great" "_law_great" sGreat f fd) (T : TxtL mg) (GD : FnOk P w K mg base CX0 1 fD fdD ["feed", "limit"] spDraw) (mD : mg "_law_draw" = some (.ref fD)) (kD : PySem.W.keepIn K (.ref fD) = true) (bD : Binds K fdD ["feed", "limit"] []) :
    FnOk P w K mg base CX0 2 f fd ["feed", "parts"] spGreat := by
  refine F.ok scG (fun vs H Q E h => ?_) (fun cdv A outer s H vs Q E hr h => ?_)
  · obtain ⟨a, cl, m, rfl, _⟩ := h
    rfl
  · obtain ⟨a, cl, m, rfl, hF, h0, h1, k⟩ := h
    refine ⟨_, pss_cons (ps_set (i := 2) scG.nd rfl (.inl rfl) pe_int)
      (pss_cons (ps_for PassesOwn.never rfl (pi_range1 rfl T.range (pa_cons (pv 1) pa_nil)) (pg_name (i := 3) scG.nd rfl (.inl rfl))
        (pss_one (ps_set (i := 2) scG.nd rfl (.inl rfl) (pe_op op_add (pe_op op_mul (pv 2) pe_int) (pe_call GD hr rfl mD kD bD .nil pass0 (pa_cons (pv 0) (pa_cons pe_int pa_nil)))))))
      (pss_one (ps_ret (pv 2)))), ?_⟩
    refine ⟨_, rfl, m, rfl, by omega, by omega, for_range (n := m.toNat) (fun i σ H' => ∃ (x : Int) (y : Option V), σ = [some (.ref a), some (.int m), some (.int x), y] ∧ 0 ≤ x ∧ x < 100000 ^ i ∧ FeedAt H' a cl ∧ But a H H')
      ⟨0, none, rfl, by omega, by decide, hF, But.refl a H⟩ ?_ ?_⟩
    · rintro i σ H' hi ⟨x, y, rfl, x0, x1, f1, b1⟩
      refine ⟨_, rfl, _, _, rfl, rfl, .inr (by decide), _, rfl, a, cl, _, rfl, f1, by decide, by decide, fun r H2 r0 r1 f2 b2 => ?_⟩
      refine ⟨_, _, rfl, rfl, _, _, rfl, by omega, ?_, f2, b1.trans b2⟩
      rw [Int.pow_succ]
      omega
    · rintro σ H' ⟨x, y, rfl, x0, x1, f1, b1⟩
      exact ⟨_, rfl, k x H' x0 x1 f1 b1⟩
theorem scP : FnScope ["above", "below", "one", "two"] ["above", "below"] (defScope sPair) := ⟨rfl, rfl, rfl, by decide +kernel, rfl, by decide +kernel, by decide +kernel⟩
theorem ok_pair {f : Addr} {fd : FuncData} (F : Fun K "_law_pair" "_law_pair" sPair f fd) (T : TxtL mg) : FnOk P w K mg base CX0 1 f fd ["above", "below"] spPair := by
  refine F.ok scP (fun vs H Q E h => ?_) (fun cdv A outer s H vs Q E hr h => ?_)
  · obtain ⟨t, b, rfl, _⟩ := h
    rfl
  · obtain ⟨t, b, rfl, hb, hz, k⟩ := h
    refine ⟨_, pss_cons (ps_set (i := 2) scP.nd rfl (.inl rfl) (pe_callB call_abs (by rfl) T.abs (by decide +kernel) (pa_cons (pv 0) pa_nil)))
      (pss_cons (ps_set (i := 3) scP.nd rfl (.inl rfl) (pe_callB call_abs (by rfl) T.abs (by decide +kernel) (pa_cons (pv 1) pa_nil)))
      (pss_cons (ps_while PassesOwn.never (pt_cmpR op_gt (pv 3) pe_int (nomark _))
        (pss_one (ps_par (i := 2) (j := 3) (by rfl) scP.nd rfl rfl (by decide) rfl rfl (pa_cons (pv 3) (pa_cons (pe_op op_mod (pe_callTy call_int1 (by rfl) T.int (by decide +kernel) (pa_cons (pv 2) pa_nil)) (pv 3)) pa_nil)) (by rfl))))
      (C8.pss_cut (ps_if (pt_cmpR op_lt (pv 1) pe_int (nomark _)) (pss_one (ps_set (i := 2) scP.nd rfl (.inl rfl) (pe_op op_sub pe_int (pv 2)))) pss_nil)
      (pss_one (ps_ret (pe_tup (pa_cons (pe_op op_fdivZ (pv 0) (pv 2)) (pa_cons (pe_op op_fdivZ (pv 1) (pv 2)) pa_nil)))))))), ?_⟩
    refine ⟨_, rfl, t, rfl, _, rfl, b, rfl, ?_⟩
    have ab : ∀ x : Int, 0 ≤ (if x < 0 then -x else x) ∧ (if x < 0 then -x else x).natAbs = x.natAbs := fun x => by split <;> omega
    refine while_by (fun σ H' => ∃ x y : Int, σ = [some (.int t), some (.int b), some (.int x), some (.int y)] ∧ H' = H ∧ 0 ≤ x ∧ 0 ≤ y ∧ Nat.gcd x.natAbs y.natAbs = Nat.gcd t.natAbs b.natAbs)
      (fun σ _ => match σ with | [_, _, _, some (.int y)] => y.toNat | _ => 0)
      ⟨_, _, rfl, rfl, (ab t).1, (ab b).1, by rw [(ab t).2, (ab b).2]⟩ ?_ (fun σ H' R R' h q => by
        obtain ⟨v, hv, i, j, e1, e2, kk, e3, q⟩ := q
        exact ⟨v, hv, i, j, e1, e2, kk, e3, h _ _ q⟩)
    rintro σ H' ⟨x, y, rfl, rfl, x0, y0, g⟩
    refine ⟨_, rfl, _, _, rfl, rfl, _, rfl, ?_⟩
    refine ite2 (fun z => ?_) (fun z => ?_)
    · have z := of_decide_eq_true z
      refine ⟨_, rfl, _, rfl, .inl ⟨_, rfl, _, rfl, _, _, rfl, rfl, z, ?_⟩⟩
      have m0 := Int.emod_nonneg x (show y ≠ 0 by omega)
      have m1 := Int.emod_lt_of_pos x z
      refine ⟨_, _, rfl, ⟨_, _, rfl, rfl, y0, m0, ?_⟩, ?_⟩
      · rw [Nat.gcd_comm, ← g]
        have : (x % y).natAbs = x.natAbs % y.natAbs := by
          rw [Int.natAbs_emod_of_nonneg x0]
        rw [this, Nat.gcd_comm x.natAbs, Nat.gcd_rec y.natAbs x.natAbs]
      · show (x % y).toNat < y.toNat
        omega
    · have z : ¬ y > 0 := fun h => z (decide_eq_true h)
      have y00 : y = 0 := by omega
      subst y00
      have hg : x = RT.gg t b := by
        unfold RT.gg
        rw [← g]
        show x = ((Nat.gcd x.natAbs 0 : Nat) : Int)
        rw [Nat.gcd_zero_right]
        omega
      refine ⟨fun σ' H2 => σ' = [some (.int t), some (.int b), some (.int (RT.byv t b)), some (.int 0)] ∧ H2 = H', ?_, ?_⟩
      · refine ⟨_, rfl, _, _, rfl, rfl, _, rfl, ?_⟩
        refine ite2 (fun z => ?_) (fun z => ?_)
        · have z := of_decide_eq_true z
          refine ⟨_, rfl, _, _, rfl, rfl, ?_, rfl⟩
          have e : (0 : Int) - x = RT.byv t b := by
            unfold RT.byv
            rw [if_neg (by omega), hg]
            omega
          show [some (V.int t), some (V.int b), some (V.int (0 - x)), some (V.int 0)] = _
          rw [e]
        · have z : ¬ b < 0 := fun h => z (decide_eq_true h)
          refine ⟨?_, rfl⟩
          have e : x = RT.byv t b := by
            unfold RT.byv
            rw [if_pos (by omega), hg]
          rw [e]
      · rintro σ' H' ⟨rfl, rfl⟩
        have hdiv : ∀ x : Int, CDivZ x (RT.byv t b) := fun x => divZ (RT.byv_ne hb) (Nat.lt_of_le_of_lt (RT.byv_le hb) hz) (by decide) (by decide)
        refine ⟨_, rfl, _, rfl, _, _, rfl, rfl, hdiv t, _, rfl, _, rfl, _, _, rfl, rfl, hdiv b, (by show 2 ≤ sizeLine; decide), fun r nr => ?_⟩
        exact k r _ (Same.upd nr) nr upd_same
end
end RX

set_option Elab.async false
set_option maxRecDepth 100000
namespace RX
open PySem L2
abbrev sIsInt : Stmt := topS 21
abbrev sSame : Stmt := topS 22
def spIsInt : Sp := fun vs H Q _ => ∃ n : Int, vs = [.int n] ∧ Q (.bl true) H
/-- a Ratio and a pair that are the same -/
def spSame (C : Addr) : Sp := fun vs H Q _ => ∃ (p q : Addr) (n d : Int), vs = [.ref p, .ref q] ∧ RatAt C H p n d ∧ PairAt H q n d ∧ Q (.bl true) H
section
variable {P : Program} {w : World} {K : PySem.W.Frag} {mg : Str → Option Value} {base : Heap}
theorem scIs : FnScope ["actual"] ["actual"] (defScope sIsInt) := ⟨rfl, rfl, rfl, by decide +kernel, rfl, by decide +kernel, by decide +kernel⟩
theorem ok_isInt {f : Addr} {fd : FuncData} (F : Fun K "_law_is_integer" "_law_is_integer" sIsInt f fd) (T : TxtL mg) : FnOk P w K mg base CX0 1 f fd ["actual"] spIsInt := by
  refine F.ok scIs (fun vs H Q E h => ?_) (fun cdv A outer s H vs Q E hr h => ?_)
  · obtain ⟨n, rfl, _⟩ := h
    rfl
  · obtain ⟨n, rfl, k⟩ := h
    refine ⟨_, pss_one (ps_ret (pe_and (pe_callB call_isi (by rfl) T.isi (by decide +kernel) (pa_cons (pv 0) (pa_cons (pe_bltn (v := .ty "int") (by rfl) T.int (by decide +kernel) rfl) pa_nil)))
      (pe_one (pe_not (pe_callB call_isi (by rfl) T.isi (by decide +kernel) (pa_cons (pv 0) (pa_cons (pe_bltn (v := .ty "bool") (by rfl) T.bool (by decide +kernel) rfl) pa_nil))))))), ?_⟩
    refine ⟨_, rfl, _, _, _, _, true, rfl, .ty _, .base (.int n), kit_ty (by decide +kernel), true, rfl, ?_⟩
    refine iteT ?_
    exact ⟨_, rfl, _, _, _, _, false, rfl, .ty _, .base (.int n), kit_ty (by decide +kernel), false, rfl, k⟩
theorem scSa : FnScope ["actual", "due"] ["actual", "due"] (defScope sSame) := ⟨rfl, rfl, rfl, by decide +kernel, rfl, by decide +kernel, by decide +kernel⟩
theorem ok_same {f fI C : Addr} {fd fdI : FuncData} (F : Fun K "_law_same" "_law_same" sSame f fd) (T : TxtL mg) (R : TxtR K mg C) (c : C8.InsC K C) (GI : FnOk P w K mg base CX0 1 fI fdI ["actual"] spIsInt) (mI : mg "_law_is_integer" = some (.ref fI)) (kI : PySem.W.keepIn K (.ref fI) = true) (bI : Binds K fdI ["actual"] []) :
    FnOk P w K mg base CX0 2 f fd ["actual", "due"] (spSame C) := by
  refine F.ok scSa (fun vs H Q E h => ?_) (fun cdv A outer s H vs Q E hr h => ?_)
  · obtain ⟨p, q, n, d, rfl, _⟩ := h
    rfl
  · obtain ⟨p, q, n, d, rfl, ⟨dx, hp⟩, hq, k⟩ := h
    refine ⟨_, pss_cons (ps_if (pt_not (pt_val (pe_callB (C8.call_isC c) (by rfl) T.isi (by decide +kernel) (pa_cons (pv 0) (pa_cons (pe_glob (v := .ref C) (by rfl) R.mgC rfl) pa_nil))))) (pss_one ps_never) pss_nil)
      (pss_cons (ps_if (PW.pt (pw_or (pt_not (pt_val (pe_call GI hr rfl mI kI bI .nil pass0 (pa_cons (pe_fld (pv 0) rfl) pa_nil)))) (pw_or1 (pt_not (pt_val (pe_call GI hr rfl mI kI bI .nil pass0 (pa_cons (pe_fld (pv 0) rfl) pa_nil)))))))
        (pss_one ps_never) pss_nil)
      (pss_one (ps_ret (pe_and (pe_cmpR op_eq (pe_fld (pv 0) rfl) (pe_ix ix_tup (pv 1) pe_int (fun _ _ => rfl)) (nomark _)) (pe_one (pe_cmpR op_eq (pe_fld (pv 0) rfl) (pe_ix ix_tup (pv 1) pe_int (fun _ _ => rfl)) (nomark _))))))), ?_⟩
    refine ⟨_, rfl, p, dx, _, rfl, hp, true, rfl, ?_⟩
    refine iteF ?_
    refine ⟨_, rfl, p, C, dx, _, _, rfl, hp, R.cl, R.nT, rf_top _ _, n, rfl, true, rfl, ?_⟩
    refine iteF ?_
    refine ⟨_, rfl, p, C, dx, _, _, rfl, hp, R.cl, R.nB, rf_bot _ _, d, rfl, true, rfl, ?_⟩
    refine iteF ?_
    refine ⟨_, rfl, p, C, dx, _, _, rfl, hp, R.cl, R.nT, rf_top _ _, _, rfl, q, _, 0, _, rfl, rfl, hq.t, rfl, rfl, true, (by rw [decide_eq_true rfl]), ?_⟩
    refine iteT ?_
    refine ⟨_, rfl, p, C, dx, _, _, rfl, hp, R.cl, R.nB, rf_bot _ _, _, rfl, q, _, 1, _, rfl, rfl, hq.t, rfl, rfl, ?_⟩
    show Q (V.bl (decide (V.int d = V.int d))) H
    rw [decide_eq_true rfl]
    exact k
end
end RX

set_option Elab.async false
set_option maxRecDepth 100000
namespace RX
open PySem L2
theorem map_range_ext {α : Type} {i : Nat} {f g : Nat → α} (h : ∀ j, j < i → f j = g j) : (List.range i).map f = (List.range i).map g :=
  List.map_congr_left fun j hj => h j (List.mem_range.mp hj)
/-- one more at the end -/
def ext {α : Type} (f : Nat → α) (i : Nat) (x : α) : Nat → α := fun j => if j = i then x else f j
theorem ext_same {α : Type} (f : Nat → α) (i : Nat) (x : α) : ext f i x i = x := if_pos rfl
theorem ext_lt {α : Type} (f : Nat → α) {i j : Nat} (x : α) (h : j < i) : ext f i x j = f j := if_neg (by omega)
theorem map_ext {α : Type} (f : Nat → α) (i : Nat) (x : α) : (List.range (i + 1)).map (ext f i x) = (List.range i).map f ++ [x] := by
  rw [List.range_succ, List.map_append]
  rw [map_range_ext (f := ext f i x) (g := f) fun j h => ext_lt f x h]
  show _ ++ [ext f i x i] = _
  rw [ext_same]
theorem FeedAt.lst {H : Hp} {a cl : Addr} (h : FeedAt H a cl) : ∃ xs, H a = some (.lst xs) := let ⟨_, _, _, _, f⟩ := h; ⟨_, f.hA⟩
theorem FeedAt.lst2 {H : Hp} {a cl : Addr} (h : FeedAt H a cl) : ∃ xs, H cl = some (.lst xs) := let ⟨_, _, _, _, f⟩ := h; ⟨_, f.hC⟩
theorem FeedAt.other {H : Hp} {a cl r : Addr} {o : HO} (h : FeedAt H a cl) (h1 : r ≠ a) (h2 : r ≠ cl) : FeedAt (upd H r o) a cl :=
  let ⟨cs, i, p, s, f⟩ := h
  ⟨cs, i, p, s, by rw [upd_ne h1.symm]; exact f.hA, by rw [upd_ne h2.symm]; exact f.hC, f.ne, f.i0, f.p0, f.s0, f.s1, f.len, f.nn⟩
theorem PairAt.ne {H : Hp} {q R : Addr} {n d : Int} {xs : List V} (h : PairAt H q n d) (h2 : H R = some (.lst xs)) : q ≠ R := ne_of h h2 (by intro z; cases z)
theorem PairAt.other {H : Hp} {q R : Addr} {n d : Int} {o : HO} (h : PairAt H q n d) (ne : q ≠ R) : PairAt (upd H R o) q n d := by
  show upd H R o q = _
  rw [upd_ne ne]
  exact h
theorem PairAt.but {H H' : Hp} {a q : Addr} {n d : Int} (h : PairAt H q n d) (x : But a H H') (ne : q ≠ a) : PairAt H' q n d := x _ _ h ne
theorem RatAt.other {C : Addr} {H : Hp} {q R : Addr} {n d : Int} {o : HO} (h : RatAt C H q n d) (ne : q ≠ R) : RatAt C (upd H R o) q n d := by
  obtain ⟨dx, h⟩ := h
  exact ⟨dx, by rw [upd_ne ne]; exact h⟩
theorem ex1 (x : Int) : V.bl (decide (V.int x = V.int x)) = V.bl true := by rw [decide_eq_true rfl]
end RX

set_option Elab.async false
set_option maxRecDepth 100000
namespace RX
open PySem L2
abbrev sFrac : Stmt := topS 25
def spFrac : Sp := fun vs H Q _ => ∃ (a cl : Addr) (m : Int), vs = [.ref a, .int m] ∧ FeedAt H a cl ∧ 1 ≤ m ∧ m ≤ 100 ∧
  ∀ (r : Addr) (t b : Int) (H' : Hp), FeedAt H' a cl → But a H H' → H r = none → r ≠ a → PairAt H' r t b → 0 < b → t.natAbs ≤ 100000 ^ m.toNat → b.natAbs ≤ 100000 ^ m.toNat → Q (.ref r) H'
section
variable {P : Program} {w : World} {K : PySem.W.Frag} {mg : Str → Option Value} {base : Heap}
theorem scFr : FnScope ["feed", "parts", "above", "below", "kind"] ["feed", "parts"] (defScope sFrac) := ⟨rfl, rfl, rfl, by decide +kernel, rfl, by decide +kernel, by decide +kernel⟩
theorem ok_frac {f fD fG : Addr} {fd fdD fdG : FuncData} (F : Fun K "_law_fraction" "_law_fraction" sFrac f fd) (T : TxtL mg) (cD : CalN P w K mg base "_law_draw" 1 ["feed", "limit"] spDraw fD fdD)
    (cG : CalN P w K mg base "_law_great" 2 ["feed", "parts"] spGreat fG fdG) : FnOk P w K mg base CX0 3 f fd ["feed", "parts"] spFrac := by
  refine F.ok scFr (fun vs H Q E h => ?_) (fun cdv A outer s H vs Q E hr h => ?_)
  · obtain ⟨a, cl, m, rfl, _⟩ := h
    rfl
  · obtain ⟨a, cl, m, rfl, hF, h0, h1, k⟩ := h
    have hr1 : Room 1 _ := hr.mono (by decide)
    refine ⟨_, pss_cons (ps_set (i := 2) scFr.nd rfl (.inl rfl) (pe_op op_sub (pe_call cD.G hr1 rfl cD.m cD.kp cD.b .nil pass0 (pa_cons (pv 0) (pa_cons pe_int pa_nil))) pe_int))
      (pss_cons (ps_set (i := 3) scFr.nd rfl (.inl rfl) (pe_op op_add pe_int (pe_call cD.G hr1 rfl cD.m cD.kp cD.b .nil pass0 (pa_cons (pv 0) (pa_cons pe_int pa_nil)))))
      (pss_cons (ps_set (i := 4) scFr.nd rfl (.inl rfl) (pe_call cD.G hr1 rfl cD.m cD.kp cD.b .nil pass0 (pa_cons (pv 0) (pa_cons pe_int pa_nil))))
      (C8.pss_cut (ps_if (pt_cmpR op_gt (pv 4) pe_int (nomark _)) (pss_one (ps_set (i := 2) scFr.nd rfl (.inl rfl) (pe_op op_mul (pe_call cG.G hr rfl cG.m cG.kp cG.b .nil pass0 (pa_cons (pv 0) (pa_cons (pv 1) pa_nil))) (pe_op op_sub pe_int (pe_op op_mul pe_int (pe_call cD.G hr1 rfl cD.m cD.kp cD.b .nil pass0 (pa_cons (pv 0) (pa_cons pe_int pa_nil)))))))) pss_nil)
      (C8.pss_cut (ps_if (pt_cmpR op_eq (pv 4) pe_int (nomark _)) (pss_one (ps_set (i := 3) scFr.nd rfl (.inl rfl) (pe_callB (call_max2 rfl) (by rfl) T.max (by decide +kernel) (pa_cons pe_int (pa_cons (pe_call cG.G hr rfl cG.m cG.kp cG.b .nil pass0 (pa_cons (pv 0) (pa_cons (pv 1) pa_nil))) pa_nil))))) pss_nil)
      (pss_one (ps_ret (pe_tup (pa_cons (pv 2) (pa_cons (pv 3) pa_nil))))))))), ?_⟩
    have hL : (100000 : Nat) ≤ 100000 ^ m.toNat := by
      have : m.toNat = (m.toNat - 1) + 1 := by omega
      rw [this, Nat.pow_succ]
      exact Nat.le_mul_of_pos_left _ (Nat.pow_pos (by decide))
    generalize hLv : (100000 : Nat) ^ m.toNat = L at hL k
    have hLz : (100000 : Int) ^ m.toNat = (L : Int) := by rw [← hLv, Int.natCast_pow]; rfl
    refine ⟨_, rfl, a, cl, 41, rfl, hF, by decide, by decide, fun r1 H1 r10 r11 f1 b1 => ⟨_, _, rfl, rfl, ?_⟩⟩
    refine ⟨_, rfl, a, cl, 12, rfl, f1, by decide, by decide, fun r2 H2 r20 r21 f2 b2 => ⟨_, _, rfl, rfl, ?_⟩⟩
    refine ⟨_, rfl, a, cl, 4, rfl, f2, by decide, by decide, fun kd H3 _ _ f3 b3 => ?_⟩
    have b3 := b1.trans (b2.trans b3)
    refine ⟨fun σ' H' => ∃ x : Int, σ' = [some (.ref a), some (.int m), some (.int x), some (.int (1 + r2)), some (.int kd)] ∧ x.natAbs ≤ L ∧ FeedAt H' a cl ∧ But a H H', ?_, ?_⟩
    · refine ⟨_, rfl, _, _, rfl, rfl, _, rfl, ?_⟩
      refine ite2 (fun _ => ?_) (fun _ => ⟨_, rfl, by omega, f3, b3⟩)
      refine ⟨_, rfl, _, rfl, a, cl, m, rfl, f3, by omega, h1, fun g H4 g0 g1 f4 b4 => ?_⟩
      refine ⟨_, rfl, a, cl, 2, rfl, f4, by decide, by decide, fun r H5 r0 r1 f5 b5 => ⟨_, _, rfl, rfl, .inl (by decide), _, _, rfl, rfl, _, _, rfl, rfl, .inr (by omega), _, rfl, ?_, f5, b3.trans (b4.trans b5)⟩⟩
      rw [hLz] at g1
      have : r = 0 ∨ r = 1 := by omega
      rcases this with rfl | rfl
      · show (g * (1 - 2 * 0)).natAbs ≤ L; omega
      · show (g * (1 - 2 * 1)).natAbs ≤ L; omega
    rintro σ1 H4 ⟨x, rfl, hx, f4, b4⟩
    refine ⟨fun σ' H' => ∃ y : Int, σ' = [some (.ref a), some (.int m), some (.int x), some (.int y), some (.int kd)] ∧ 0 < y ∧ y.natAbs ≤ L ∧ FeedAt H' a cl ∧ But a H H', ?_, ?_⟩
    · refine ⟨_, rfl, rfl, _, rfl, ?_⟩
      refine ite2 (fun _ => ?_) (fun _ => ⟨_, rfl, by omega, by omega, f4, b4⟩)
      refine ⟨_, rfl, _, rfl, a, cl, m, rfl, f4, by omega, h1, fun g H5 g0 g1 f5 b5 => ⟨_, _, rfl, _, rfl, ?_, ?_, f5, b4.trans b5⟩⟩
      · split <;> omega
      · rw [hLz] at g1
        split <;> omega
    rintro σ2 H5 ⟨y, rfl, hy, hyL, f5, b5⟩
    refine ⟨_, rfl, _, rfl, (by show 2 ≤ sizeLine; decide), fun r nr => ?_⟩
    have nra : r ≠ a := fun e => by
      subst e
      obtain ⟨xs, hf⟩ := f5.lst
      rw [hf] at nr
      cases nr
    exact k r _ _ _ (f5.same (Same.upd nr)) (b5.trans (Same.but (Same.upd nr))) (b5.free nr f5) nra upd_same hy hx hyL
end
end RX

set_option Elab.async false
set_option linter.all false
set_option maxRecDepth 100000
set_option maxHeartbeats 2000000
/-! Errors of the program: classes that take their __init__ from another one, objects and methods that may let one out.
What may be let out is told at the place of the call (PassesAt), since what the except suite wants depends on the slots. -/
namespace XR
open PySem PySem.Spec PyProof.Rows L2
section
variable {P : Program} {w : World} {K : PySem.W.Frag} {mg : Str → Option Value} {base : Heap}
/-- a def that lets nothing out keeps its promise whatever is wished of exceptions -/
theorem quiet {CX : CXT} {k : Nat} {f : Addr} {fd : FuncData} {ps : List Str} {sp : Sp} (F : FnOk P w K mg base CX0 k f fd ps sp) : FnOk P w K mg base CX k f fd ps sp := by
  refine ⟨F.len, fun A outer s H args us vs Q E room env bind rel told => codeAny_mono (F.run A outer s H args us vs Q E room env bind rel told) ?_⟩
  rintro (bad | flow) s' fin
  · exact (show False from fin).elim
  · exact match flow, fin with
    | .ret _, fin => fin
    | .next, fin => fin
    | .brk, fin => fin
    | .cont, fin => fin
/-- a def of the text that may let out exceptions without a context -/
theorem ok_out {x qual : Str} {st : Stmt} {f : Addr} {fd : FuncData} {N ps : List Str} {k : Nat} {sp : Sp} (F : Fun K x qual st f fd) (S : FnScope N ps (defScope st)) (len : ∀ vs H Q E, sp vs H Q E → vs.length = ps.length)
    (body : ∀ (cdv : Value) (A : Around) (outer : List Env) (s : Shared) (H : Hp) (vs : List V) (Q : VK) (E : XK), Room k (A.deeper (envOfC qual (defScope st) s.heap.objs.size f cdv)) → sp vs H Q E →
      ∃ t, PSs (cxOf (L2N.CX P w) P w K mg base N qual (defScope st) f cdv A outer s H E) (defBody st) t ∧ t { nx := fun _ H' => Q .non H', rt := Q } (start N vs) H) :
    FnOk P w K mg base (L2N.CX P w) (k + 1) f fd ps sp := by
  obtain ⟨_, _, _, _, _, _, cdv, _, _, rfl, look, code⟩ := F.ex
  refine fn_of look code S len ?_
  intro A outer s H vs Q E room told
  exact body cdv A outer s H vs Q E room told
end
section
variable {X : Cx} {CX : CXT} {n : Nat} {ini C : Addr} {fd : FuncData} {names : List Str} {pr : Sp} {low : List V} {lowV : List Value}
/-- C(args): what its __init__ lets out is taken here -/
theorem makeAt {W : XK} {q : List (Addr × Obj)} {st : L2.St} {hp : Hp} {now : Shared} {Kv : VK} {argV : List Value} {args : List V} (cls : Mk X.K C ini) (F : FnOk X.prog X.w X.K X.mg X.base CX n ini fd names pr) (room : Room (n + 1) X.A) (bind : Binds X.K fd names lowV)
    (lows : Vals low lowV) (out : PassesAt CX X st W) (I : Inv X q st hp now) (rel : Vals args argV)
    (told : ∀ o d, hp o = none → hp d = none → d ≠ o → pr (.ref o :: (args ++ low)) (upd (upd hp d (.own o)) o (.ins C d [])) (fun v h' => v = .non ∧ Kv (.ref o) h') W) :
    wpAny (model X.prog X.w) X.A (call (.ref C) argV) (EP X q st Kv) X.xe now := by
  have want := told (now.heap.objs.size + 1) now.heap.objs.size (I.hok.fresh (Nat.le_succ _)) (I.hok.fresh (Nat.le_refl _)) (Nat.ne_of_lt (Nat.lt_succ_self _))
  have J := Inv.made (C := C) I
  have rels : Vals (V.ref (now.heap.objs.size + 1) :: (args ++ low)) (Value.ref (now.heap.objs.size + 1) :: (argV ++ lowV)) := .cons rfl (rel.append lows)
  have size : ((Value.ref (now.heap.objs.size + 1) :: argV) ++ lowV).length = names.length := rels.length.symm.trans (F.len _ _ _ _ want)
  have bound := bind _ (Value.ref (now.heap.objs.size + 1) :: argV) J.kIn size
  have run := F.run _ X.stack _ _ ⟨Value.ref (now.heap.objs.size + 1) :: argV, []⟩ _ _ _ W (room.make C argV []) (J.env0.make C argV []) bound rels want
  refine wpAny_call (make_map (f := ini) I.kIn cls.makes cls.init (beq_iff_eq.mp cls.fn) (codeAny_mono run ?_))
  rintro (bad | flow) s' fin
  · exact out q _ _ bad s' J fin
  · exact match flow, fin with
    | .ret u, fin => by
      obtain ⟨v, h', J', rv, rfl, good⟩ := J.after fin
      exact ⟨rv, V.ref (now.heap.objs.size + 1), h', J', rfl, good⟩
    | .next, fin => False.elim fin
    | .brk, fin => False.elim fin
    | .cont, fin => False.elim fin
def tMakeS (C : Addr) (pr : Sp) (low : List V) (E : L2.St → XK) (t : TA) : TE := fun σ H Q => t σ H fun vs H1 => ∀ o d, H1 o = none → H1 d = none → d ≠ o → pr (.ref o :: (vs ++ low)) (upd (upd H1 d (.own o)) o (.ins C d [])) (fun v h' => v = .non ∧ Q (.ref o) h') (E σ)
variable {E : L2.St → XK} {x m : Str} {p pos apos : Pos} {e o : Expr} {es : List Expr} {t : TA} {ta : TE}
theorem pe_makeS (cls : Mk X.K C ini) (F : FnOk X.prog X.w X.K X.mg X.base CX n ini fd names pr) (room : Room (n + 1) X.A) (hg : Gl X x) (hm : X.mg x = some (.ref C)) (bind : Binds X.K fd names lowV) (lows : Vals low lowV) (out : ∀ σ, PassesAt CX X σ (E σ)) (ha : PA X (e :: es) t)
    (dbg : (x == ("__debug__" : Str)) = false := by decide) (st1 : starEach (e :: es) X.env = (false, eval e X.env) :: starEach es X.env := by rfl) (st2 : (backTo pos (starEach es X.env)).any (·.1) = false := by rfl) : PE X (.Call (.Name x p) (e :: es) [] pos) (tMakeS C pr low E t) :=
  ⟨fun pins s σ H Q I told => wpAny_Call_Name_kw (ld_glob I hg hm (PySem.W.callWith_K (h₀ := X.base) I.ok.mod.kin cls.kp (thn (ha.run pos pins s σ H _ I told) fun _ _ ⟨_, _, J, rel, want⟩ => ⟨J.kIn, makeAt cls F room bind lows (out σ) J rel want⟩) st1 st2) dbg)⟩
def tMethS (C : Addr) (m : Str) (pr : Sp) (low : List V) (E : L2.St → XK) (ta : TE) (t : TA) : TE := fun σ H Q => ta σ H fun v H1 => ∃ a d fs, v = .ref a ∧ H1 a = some (.ins C d fs) ∧ fs.lookup m = none ∧ t σ H1 fun vs H2 => pr (v :: (vs ++ low)) H2 Q (E σ)
/-- o.m(e, ..) where m may let something out -/
theorem pe_methS {pl : Sem Bool} (ho : PE X o ta) (c : Cls X.K C) (hm : Meth X.K C m ini) (F : FnOk X.prog X.w X.K X.mg X.base CX n ini fd names pr) (room : Room n X.A) (bind : Binds X.K fd names lowV) (lows : Vals low lowV) (out : ∀ σ, PassesAt CX X σ (E σ)) (ha : PA X (e :: es) t)
    (st1 : starEach (e :: es) X.env = (false, eval e X.env) :: starEach es X.env := by rfl) (st2 : (backTo pos (starEach es X.env)).any (·.1) = false := by rfl)
    (how : eval (.Call (.Attribute o m apos) (e :: es) [] pos) X.env = (do let ov ← eval o X.env; standAt apos.atName; let (f, first) ← holding [ov] (getMethod ov m pl); callWith pos f first (backTo pos (starEach (e :: es) X.env)) (backToKw pos (keywordEach [] X.env))) := by rfl) :
    PE X (.Call (.Attribute o m apos) (e :: es) [] pos) (tMethS C m pr low E ta t) := by
  constructor
  intro pins s σ H Q I told
  refine PySem.W.methodCall_KW (pl := pl) (thn (ho.run pins s σ H _ I told) ?_) how
  rintro u s1 ⟨v, H1, J, rv, a, d, fs, rfl, at_a, none_m, told⟩
  cases (show u = Value.ref a from rv)
  refine getmeth_ok J at_a c hm none_m (PySem.W.callWith_K (first := [.ref a]) (h₀ := X.base) I.ok.mod.kin hm.kp (thn (ha.run pos pins s1 σ H1 _ J told) ?_) st1 st2)
  rintro us s2 ⟨vs, H2, J2, rel, want⟩
  exact ⟨J2.kIn, run_fnSD (us := .ref a :: us) (vs := .ref a :: vs) F room bind lows (out σ) J2 (.cons rfl rel) want⟩
end
/-! ### C(..) of an own class of error over ValueError -/
section
variable {X : Cx} {CX : CXT} {n : Nat} {C ini : Addr} {fd : FuncData} {names : List Str} {pr : Sp} {low : List V} {lowV : List Value}
theorem errAt {q : List (Addr × Obj)} {st : L2.St} {hp : Hp} {now : Shared} {Kx : XK} {argV : List Value} {args : List V} (T : OexC X.K C) (find : PySem.W.findIn X.K (.ref C) "__init__" = some (some (.ref ini))) (isf : PySem.W.typeIn X.K (.ref ini) = some (.type "function"))
    (F : FnOk X.prog X.w X.K X.mg X.base CX n ini fd names pr) (room : Room (n + 1) X.A) (bind : Binds X.K fd names lowV) (lows : Vals low lowV) (none_out : Passes CX X (fun _ _ _ => False)) (I : Inv X q st hp now) (rel : Vals args argV) (few : args.length ≤ 1000)
    (told : ∀ a, hp a = none → pr (.ref a :: (args ++ low)) (upd hp a (exo a C none)) (fun v h' => v = .non ∧ ∃ (d : Addr) (fs : List (Str × V)), h' a = some (exo a C (some d)) ∧ h' d = some (exd d fs) ∧ hp d = none ∧ Kx (.ref C) (some d) (upd (del h' a) d (.xd fs))) (fun _ _ _ => False)) :
    wpAny (model X.prog X.w) X.A (call (.ref C) argV) (L2N.MkP X q st Kx) X.xe now := by
  obtain ⟨_, _, _, _, mro, _, _, _, _, _, _, _, _, _, _, cobj, mroOk⟩ := T.cls
  obtain ⟨hh, gs, dr, tk, os⟩ := now
  -- the argument tuple, then the error itself
  have above : hh.objs.size ≤ hh.objs.size + 1 := Nat.le_succ _
  have want := told (hh.objs.size + 1) (I.hok.fresh above)
  have grown : ∀ b u, hh.get? b = some u → ((hh.push (PySem.W.kdv_tup argV)).push (PySem.HandSPX.excO C hh.objs.size)).get? b = some u := fun b u z => Heap.get?_push_of_some _ (Heap.get?_push_of_some _ z)
  have there : ((hh.push (PySem.W.kdv_tup argV)).push (PySem.HandSPX.excO C hh.objs.size)).get? (hh.objs.size + 1) = some (PySem.HandSPX.excO C hh.objs.size) := by heap_get
  have J : Inv X q st (upd hp (hh.objs.size + 1) (exo (hh.objs.size + 1) C none)) ⟨(hh.push (PySem.W.kdv_tup argV)).push (PySem.HandSPX.excO C hh.objs.size), gs, dr, tk, os⟩ := I.laid grown above (exo_ok there)
  have rels : Vals (V.ref (hh.objs.size + 1) :: (args ++ low)) (Value.ref (hh.objs.size + 1) :: (argV ++ lowV)) := .cons rfl (rel.append lows)
  have size : ((Value.ref (hh.objs.size + 1) :: argV) ++ lowV).length = names.length := rels.length.symm.trans (F.len _ _ _ _ want)
  have short : argV.length ≤ sizeLine := by
    have := Paired.length rel
    have := sizeLine_eq
    omega
  have bound := bind _ (Value.ref (hh.objs.size + 1) :: argV) J.kIn size
  have run := F.run _ X.stack _ _ ⟨Value.ref (hh.objs.size + 1) :: argV, []⟩ _ _ _ (fun _ _ _ => False) (room.make C argV []) (J.env0.make C argV []) bound rels want
  refine wpAny_call (PySem.HandSPX.call_own PySem.F.excBase_ValueError (fun Y => PySem.HandSPX.refsVE_contains Y mro mroOk) (I.kIn _ _ cobj) (PySem.W.looks_findIn I.kIn find) (fun self => PySem.W.bind_fn I.kIn self isf) short (codeAny_mono run ?_))
  rintro (bad | flow) s' fin
  · exact none_out q st _ _ bad s' J fin
  · exact match flow, fin with
    | .ret u, fin => by
      obtain ⟨v, h', sameOs, bare, un, good, rv, rfl, d, fs, at_a, at_d, newd, out⟩ := fin
      obtain ⟨h2, g2, d2, t2, os2⟩ := s'
      obtain ⟨t0, G, JG, keepG, goneA, objA, noneA⟩ := mk_end0 (d2 := d2) (t2 := t2) I above grown un good sameOs bare at_a at_d newd
      refine ⟨rv, hh.objs.size + 1, _, _, ⟨G, g2, d2, t2, os2⟩, _, .ref C, some d, rfl, JG, keepG, goneA, objA, ⟨rfl, rfl, ?_⟩, rfl, rfl, noneA, rfl, bare, raises_own T.exC T.tyC, out⟩
      rintro _ ⟨⟩
      rfl
    | .next, fin => False.elim fin
    | .brk, fin => False.elim fin
    | .cont, fin => False.elim fin
variable {x : Str} {p pos : Pos} {e : Expr} {es : List Expr} {ta : TA}
/-- raise C(e, ..) -/
theorem pmk_err (T : OexC X.K C) (find : PySem.W.findIn X.K (.ref C) "__init__" = some (some (.ref ini))) (isf : PySem.W.typeIn X.K (.ref ini) = some (.type "function")) (F : FnOk X.prog X.w X.K X.mg X.base CX n ini fd names pr) (room : Room (n + 1) X.A) (bind : Binds X.K fd names lowV) (lows : Vals low lowV)
    (none_out : Passes CX X (fun _ _ _ => False)) (hg : Gl X x) (hm : X.mg x = some (.ref C)) (ha : PA X (e :: es) ta) (dbg : (x == ("__debug__" : Str)) = false := by decide) (st1 : starEach (e :: es) X.env = (false, eval e X.env) :: starEach es X.env := by rfl) (st2 : (backTo pos (starEach es X.env)).any (·.1) = false := by rfl) :
    L2N.PMk X (.Call (.Name x p) (e :: es) [] pos) (tMkO C pr low ta) := fun pins s σ H Q I told =>
  wpAny_Call_Name_kw (ld_glob I hg hm (PySem.W.callWith_K (h₀ := X.base) I.ok.mod.kin T.kC (thn (ha.run pos pins s σ H _ I told) fun _ _ ⟨_, _, J, rel, few, want⟩ => ⟨J.kIn, errAt T find isf F room bind lows none_out J rel few want⟩) st1 st2) dbg)
/-- raise C() -/
theorem pmk_err0 (T : OexC X.K C) (find : PySem.W.findIn X.K (.ref C) "__init__" = some (some (.ref ini))) (isf : PySem.W.typeIn X.K (.ref ini) = some (.type "function")) (F : FnOk X.prog X.w X.K X.mg X.base CX n ini fd names pr) (room : Room (n + 1) X.A) (bind : Binds X.K fd names lowV) (lows : Vals low lowV)
    (none_out : Passes CX X (fun _ _ _ => False)) (hg : Gl X x) (hm : X.mg x = some (.ref C)) (dbg : (x == ("__debug__" : Str)) = false := by decide) : L2N.PMk X (.Call (.Name x p) [] [] pos) (tMkO C pr low tNil) := fun pins s σ H Q I told =>
  wpAny_Call_Name_kw (ld_glob I hg hm (PySem.W.callWith_K0 I.kIn T.kC (errAt (argV := []) T find isf F room bind lows none_out I .nil told.1 told.2)) dbg)
end
end XR

set_option Elab.async false
set_option linter.all false
set_option maxRecDepth 100000
set_option maxHeartbeats 2000000
/-! Within an except suite: defs that are handed the caught error itself, isinstance of it. -/
namespace XH
open PySem PySem.Spec PyProof.Rows L2 L2H
/-- a promise that may speak of the error at hand (its place and its object) -/
abbrev SpP := Addr × Obj → Sp
structure FnP (P : Program) (w : World) (K : PySem.W.Frag) (mg : Str → Option Value) (base : Heap) (CX : CXT) (k : Nat) (f : Addr) (fd : FuncData) (ps : List Str) (sp : SpP) : Prop where
  fits : ∀ z vs H Q E, sp z vs H Q E → vs.length = ps.length
  goes : ∀ (z : Addr × Obj) (A : Around) (outer : List Env) (s : Shared) (H : Hp) (args : Args) (us : List Value) (vs : List V) (Q : VK) (E : XK), Hot1 A z → RoomH k A → PinOk outer H s z → Env0 P w K mg base A outer s H → BindsTo s fd args (ps.zip us) → Vals vs us →
    sp z vs H Q E → codeAny (model P w) A (.call (.ref f) args) (CR CX outer P w H s Q E) s
section
variable {P : Program} {w : World} {K : PySem.W.Frag} {mg : Str → Option Value} {base : Heap} {CX : CXT}
theorem ok_hot {x qual : Str} {st : Stmt} {f : Addr} {fd : FuncData} {N ps : List Str} {k : Nat} {sp : SpP} (F : Fun K x qual st f fd) (S : FnScope N ps (defScope st)) (fits : ∀ z vs H Q E, sp z vs H Q E → vs.length = ps.length)
    (body : ∀ (cdv : Value) (z : Addr × Obj) (A : Around) (outer : List Env) (s : Shared) (H : Hp) (vs : List V) (Q : VK) (E : XK), Hot1 A z → RoomH k (A.deeper (envOfC qual (defScope st) s.heap.objs.size f cdv)) → sp z vs H Q E →
      ∃ t, PSs (cxH CX P w K mg base N qual (defScope st) f cdv A outer s H E z) (defBody st) t ∧ t { nx := fun _ H' => Q .non H', rt := Q } (L2.start N vs) H) : FnP P w K mg base CX (k + 1) f fd ps sp := by
  obtain ⟨_, _, _, _, _, _, cdv, _, _, rfl, look, code⟩ := F.ex
  refine ⟨fits, ?_⟩
  intro z A outer s H args us vs Q E hot room pin env bind rel told
  have stays := fun b u (q : base.get? b = some u) => (env.bs b u q).1
  have kin : K.In s.heap := env.mod.kin.keeps stays
  refine codeAny_call_function room.depth (kin _ _ look) rfl S.co S.gen rfl (PySem.W.codeRec_of kin code) (bind _ _ _ _ (wpAny_newFunctionEnv_cells S.kind ?_ ?_))
  · rintro ⟨n, v⟩ mem
    rcases S.par n (List.of_mem_zip mem).1 with q | q
    · exact Or.inl q
    · exact Or.inr ⟨q, PySem.W.cellsFrom_some _ _ _ (Or.inl q)⟩
  · rintro _ rfl s1 laid
    refine ⟨(env.mod.nolimit.keeps stays).keeps laid.toInCall.keep, codeAny_func ?_⟩
    obtain ⟨t, reads, told'⟩ := body cdv z A outer s H vs Q E hot (room.deeper _) told
    have I := inv_startH (CX := CX) (P := P) (w := w) (mg := mg) (base := base) (E := E) S pin env (fits _ _ _ _ _ told) rel laid
    refine wpAny_mono (reads.run [] s1 (L2.start N vs) H _ I told') ?_ fun _ _ z => z
    intro flow s' fin
    exact match flow, fin with
      | .ret _, ⟨v, _, H', J, rv, q⟩ => ⟨v, H', J.os, J.bare, J.base, J.hok, rv, q⟩
      | .next, ⟨_, H', J, q⟩ => ⟨V.non, H', J.os, J.bare, J.base, J.hok, rfl, q⟩
      | .brk, ⟨_, _, _, q⟩ => False.elim q
      | .cont, ⟨_, _, _, q⟩ => False.elim q
end
section
variable {X : Cx} {CX : CXT} {k : Nat} {f : Addr} {fd : FuncData} {ps : List Str} {sp : SpP} {E : L2.St → XK} {x : Str} {q pos : Pos} {e : Expr} {es : List Expr} {t : TA} {z : Addr × Obj}
theorem pe_callP (F : FnP X.prog X.w X.K X.mg X.base CX k f fd ps sp) (room : RoomH k X.A) (hot : Hot1 X.A z) (mem : z ∈ X.pn) (hg : Gl X x) (hm : X.mg x = some (.ref f)) (hk : PySem.W.keepIn X.K (.ref f) = true) (bind : Binds X.K fd ps []) (out : ∀ σ, PassesAt CX X σ (E σ)) (ha : PA X (e :: es) t)
    (dbg : (x == ("__debug__" : Str)) = false := by decide) (st1 : starEach (e :: es) X.env = (false, eval e X.env) :: starEach es X.env := by rfl) (st2 : (backTo pos (starEach es X.env)).any (·.1) = false := by rfl) : PE X (.Call (.Name x q) (e :: es) [] pos) (tCallS (sp z) E t) := by
  constructor
  intro pins s σ H Q I told
  refine wpAny_Call_Name_kw (ld_glob I hg hm (PySem.W.callWith_K (h₀ := X.base) I.ok.mod.kin hk (thn (ha.run pos pins s σ H _ I told) ?_) st1 st2) dbg)
  rintro us s1 ⟨vs, H1, J, rel, want⟩
  refine ⟨J.kIn, ?_⟩
  have size : us.length = ps.length := rel.length.symm.trans (F.fits _ _ _ _ _ want)
  have bound : BindsTo s1 fd ⟨us, []⟩ (ps.zip us) := by
    have b := bind s1 us J.kIn (by rw [List.append_nil]; exact size)
    rw [List.append_nil] at b
    exact b
  obtain ⟨g1, g2, g3, g4, g5⟩ := J.pin z (List.mem_append_left _ mem)
  have pin : PinOk X.stack H1 s1 z := ⟨g1, g2, fun hm => (List.mem_cons.mp (J.stkSub z.1 hm)).elim g3 g4, g5⟩
  refine wpAny_call (codeAny_mono (F.goes z X.A X.stack s1 H1 ⟨us, []⟩ us vs Q (E σ) hot room pin J.env0 bound rel want) ?_)
  rintro (bad | flow) s' fin
  · exact out σ pins H1 s1 bad s' J fin
  · exact match flow, fin with
    | .ret _, fin => J.after fin
    | .next, fin => False.elim fin
    | .brk, fin => False.elim fin
    | .cont, fin => False.elim fin
end
/-! ### isinstance of the error at hand -/
structure ErrC (K : PySem.W.Frag) (D : Addr) : Prop where
  known : (PySem.W.clsIn K D).isSome = true
  ga : PySem.W.findIn K (.ref D) "__getattribute__" = some (some (.builtin "BaseException.__getattribute__"))
  gt : PySem.W.findIn K (.ref D) "__getattr__" = some none
  sub : PySem.W.subIn K (.ref D) (.type "BaseException") = some true
  cl : PySem.W.findIn K (.ref D) "__class__" = some (some (.builtin "object.__class__"))
  get : PySem.W.specialIn K (.builtin "object.__class__") "__get__" = some (some (.builtin "getset_descriptor.__get__"))
  tak : PySem.W.takesIn K (.builtin "object.__class__") = some true
  mro : PySem.W.mroIn K D (.type "object") = some true
/-- isinstance(e, c): the error stands at z, its fields at dd -/
def rIsP (K : PySem.W.Frag) (D : Addr) (z : Addr × Obj) : List V → Hp → VK → Prop := fun xs H Q => ∃ (c : V) (cv : Value) (b : Bool) (dd : Addr) (fs : List (Str × V)), xs = [.ref z.1, c] ∧ (∀ u, RelV c u → u = cv) ∧ PySem.W.kitOne K (.ref D) cv = some b ∧ z.2.dict = some dd ∧ H dd = some (.xd fs) ∧ Q (.bl b) H
theorem call_isP {X : Cx} {z : Addr × Obj} {D : Addr} (mem : z ∈ X.pn) (C : ErrC X.K D) (cls : z.2.cls = .ref D) (flds : ∃ vs, z.2.data = .fields vs) : CallR X (.builtin "isinstance") (rIsP X.K D z) := by
  rintro pins s σ H xs us Q I rel ⟨c, cv, b, dd, fs, rfl, only, kit, hd, at_d, q⟩
  obtain ⟨vs, data⟩ := flds
  obtain ⟨u1, eus, rc⟩ : ∃ r1, us = [Value.ref z.1, r1] ∧ RelV c r1 := by
    cases rel with
    | cons a as =>
      cases as with
      | cons b bs =>
        cases bs
        cases (show _ = Value.ref z.1 from a)
        exact ⟨_, rfl, b⟩
  subst eus
  cases only _ rc
  have held : s.heap.get? z.1 = some z.2 := (I.pin z (List.mem_append_left _ mem)).1
  obtain ⟨mA, names, _⟩ : ObjOk X.prog X.w H s.heap dd (.xd fs) := I.hok dd _ at_d
  obtain ⟨od, obj, _⟩ := lookIn_ns names
  have inst : PySem.W.InstAt s.heap z.1 z.2 D (some od) := by
    refine ⟨held, cls, ?_, ?_⟩
    · unfold PySem.W.notCls
      rw [data] <;> rfl
    · rw [hd]
      exact obj
  refine PySem.W.kia_one (PySem.W.kitx_exc C.known C.ga C.gt C.sub C.cl C.get C.tak C.mro) I.kIn inst kit (fun y => nomatch y) ?_
  intro tk
  exact ⟨.bl b, H, I.kept (t' := tk) fun _ _ y => y, rfl, q⟩
end XH

set_option Elab.async false
set_option linter.all false
set_option maxRecDepth 100000
set_option maxHeartbeats 2000000
/-! A comprehension (without a test) while an error is handled: its block keeps the error pinned. -/
namespace XH
open PySem PySem.Spec PyProof.Rows L2 L2H
/-- in the block of a comprehension the error at hand stands as it stood -/
theorem pin_block {X : Cx} {z : Addr × Obj} {s3 s' : Shared} {H3 H' : Hp} {scope : Scope} {ce : Env} {fp : List Addr} {σ σ' : L2.St} {pins : List (Addr × Obj)} (mem : z ∈ X.pn) (I3 : Inv X pins σ H3 s3) (loc : ce.locals = s3.heap.objs.size) (apart : ∀ b ∈ fp, z.1 ≠ b)
    (I : Inv (X.blk s3 H3 scope ce fp) [] σ' H' s') : Inv ((X.blk s3 H3 scope ce fp).tr [z] fun _ _ => False) [] σ' H' s' := by
  obtain ⟨g1, g2, g3, g4, g5⟩ := I3.pin z (List.mem_append_left _ mem)
  have outside : z.1 ∉ frs X.stack := fun hm => (List.mem_cons.mp (I3.stkSub z.1 hm)).elim g3 g4
  have inside : z.1 ∉ fp := fun hm => apart _ hm rfl
  have J : Inv (X.blk s3 H3 scope ce fp) [z] σ' H' s' := I.pins_of (by
    intro y hy
    cases List.mem_singleton.mp hy
    refine ⟨I.base.keep _ _ g1 g2 outside inside, I.base.free _ _ g1 g2 inside, fun e => ?_, outside, g5⟩
    have lt := Heap.lt_size g1
    rw [show z.1 = s3.heap.objs.size from e.trans loc] at lt
    exact Nat.lt_irrefl _ lt)
  exact J.toTry _
theorem unpin_block {X : Cx} {z : Addr × Obj} {s3 s' : Shared} {H3 H' : Hp} {scope : Scope} {ce : Env} {fp : List Addr} {σ' : L2.St} (ok : (X.blk s3 H3 scope ce fp).Ok) (J : Inv ((X.blk s3 H3 scope ce fp).tr [z] fun _ _ => False) [] σ' H' s') : Inv (X.blk s3 H3 scope ce fp) [] σ' H' s' :=
  (Inv.ofTry (pins := [z]) J ok).pins_of fun y hy => nomatch hy
theorem pe_lcHot {X : Cx} {z : Addr × Obj} {elt tg iter : Expr} {scope : Scope} {own : List (Str × Nat)} {pos : Pos} {wi : TI} {g : TG} {te : TE} (hot : Hot1 X.A z) (mem : z ∈ X.pn) (nd : X.N.Nodup) (hi : PIH X tg iter wi) (ok : BlkOk X.N X.env.scope scope own)
    (hg : ∀ (s : Shared) (H : Hp) (C : Addr) (cl : List (Str × Addr)) (fp : List Addr), PG (X.blk s H scope (compEnvC scope cl C X.env) fp) tg g) (he : ∀ (s : Shared) (H : Hp) (C : Addr) (cl : List (Str × Addr)) (fp : List Addr), PE (X.blk s H scope (compEnvC scope cl C X.env) fp) elt te)
    (fold : ∀ x, foldedSetIterable iter X.env x = pure x := by intro _; rfl) : PE X (.ListComp elt [⟨tg, iter, [], 0⟩] scope pos) (tLc wi g tYes te (own.map (·.2))) := by
  constructor
  intro pins s σ H Q I told
  rw [eval_ListComp]
  refine wpAny_comprehension_free (use := none) rfl fold (closure_ok ?_) ok.kind (fun y hy e => (ok.uniq y hy).trans (congrArg some e)) (thn (hi.run pins s σ H _ I told) fun _ _ h1 => thn h1 ?_)
  · intro y hy e
    exact (ok.free y hy e).elim (fun k => I.ok.has _ (Or.inl k)) fun k => I.ok.has _ (Or.inr k)
  rintro itv s2 ⟨it, fp, tn, J, H2, rfl, I2, T, start, apart, want⟩
  refine wpAny_newObj_type (newEnv_comp ?_) (show 0 ≤ sizeLine by decide)
  obtain ⟨W, ⟨m0, w0⟩, turn⟩ := want s2.heap.objs.size (I2.hok.fresh (Nat.le_refl _))
  -- the new list
  obtain ⟨s3, es3⟩ : ∃ s3 : Shared, s3 = { s2 with heap := s2.heap.push { cls := .type "list", data := .seq ([] : List Value).toArray } } := ⟨_, rfl⟩
  obtain ⟨H3, eH3⟩ : ∃ H3 : Hp, H3 = upd H2 s2.heap.objs.size (.lst []) := ⟨_, rfl⟩
  have keeps3 : ∀ b o, s2.heap.get? b = some o → s3.heap.get? b = some o := fun b o e => by
    rw [es3]
    exact Heap.get?_push_of_some _ e
  have I3 : Inv X pins σ H3 s3 := by
    rw [es3, eH3]
    exact I2.laid (t' := s2.toks) (fun b o e => Heap.get?_push_of_some _ e) (Nat.le_refl _) ⟨Nat.zero_le _, [], 0, .nil, Heap.get?_push_size _ rfl⟩
  rw [← eH3] at w0
  have size3 : s3.heap.objs.size = s2.heap.objs.size + 1 := by rw [es3]; exact Heap.size_push ..
  have small : ∀ b ∈ fp, b < s2.heap.objs.size := fun b hb => by
    obtain ⟨o, e, _⟩ := T.obj _ _ start b hb
    exact Heap.lt_size e
  have apart3 : ∀ b ∈ fp, FpOk X pins H3 b ∧ b < s3.heap.objs.size := fun b hb => by
    have lt := small b hb
    refine ⟨⟨?_, (apart b hb).2⟩, by rw [size3]; exact Nat.lt_succ_of_lt lt⟩
    rw [eH3, upd_ne (Nat.ne_of_lt lt)]
    exact (apart b hb).1
  have zap : ∀ b ∈ fp, z.1 ≠ b := fun b hb => (apart3 b hb).1.2.2.2.2.2 z (List.mem_append_left _ mem)
  have start3 : tn 0 s3.heap := T.keep _ _ _ start fun b _ o e => keeps3 b o e
  have I4 := block_start I3 ok nd apart3
  rw [← es3]
  have pg := hg s3 H3 s3.heap.objs.size (cellsFrom (s3.heap.objs.size + 1) scope.names (cloFrom X.env.cells scope.names [])) fp
  have pe := he s3 H3 s3.heap.objs.size (cellsFrom (s3.heap.objs.size + 1) scope.names (cloFrom X.env.cells scope.names [])) fp
  show codeAny _ _ (.compStart (.ListComp elt [⟨tg, iter, [], 0⟩] scope pos) 0 (.ref it) (.ref s2.heap.objs.size) (compEnvC scope (cellsFrom (s3.heap.objs.size + 1) scope.names (cloFrom X.env.cells scope.names [])) s3.heap.objs.size X.env))
    (compPost (model X.prog X.w) X.A X.xe none (EP X pins σ Q) (.ref s2.heap.objs.size) s3.heap.objs.size) { s3 with heap := pushCells (s3.heap.push { cls := .type "dict", data := .dict #[] }) scope.names }
  have cL : (compEnvC scope (cellsFrom (s3.heap.objs.size + 1) scope.names (cloFrom X.env.cells scope.names [])) s3.heap.objs.size X.env).locals = s3.heap.objs.size := rfl
  generalize compEnvC scope (cellsFrom (s3.heap.objs.size + 1) scope.names (cloFrom X.env.cells scope.names [])) s3.heap.objs.size X.env = ce at I4 pg pe cL ⊢
  obtain ⟨s4, es4⟩ : ∃ s4 : Shared, s4 = { s3 with heap := pushCells (s3.heap.push { cls := .type "dict", data := .dict #[] }) scope.names } := ⟨_, rfl⟩
  have start4 : tn 0 s4.heap := T.keep _ _ _ start3 fun b _ o e => by
    rw [es4]
    exact pushCells_keeps _ _ _ _ (Heap.get?_push_of_some _ e)
  rw [← es4] at I4 ⊢
  have unseen : ∀ b ∈ fp, H3 b = none := fun b hb => (apart3 b hb).1.1
  have far : ∀ {σ' : L2.St} {H' : Hp} {s' : Shared}, Inv (X.blk s3 H3 scope ce fp) [] σ' H' s' → (∀ b ∈ fp, H' b = none) → ∀ b ∈ fp, FpOk (X.blk s3 H3 scope ce fp) [] H' b := fun {σ' H' s'} J none_ b hb =>
    ⟨none_ b hb, (J.ok.exf b hb).1, J.ok.exfs b hb, Or.inl hb, fun y c e => (J.ok.exf b hb).2 y c e, fun y hy => nomatch hy⟩
  have farZ : ∀ {σ' : L2.St} {H' : Hp} {s' : Shared}, Inv (X.blk s3 H3 scope ce fp) [] σ' H' s' → (∀ b ∈ fp, H' b = none) → ∀ b ∈ fp, FpOk ((X.blk s3 H3 scope ce fp).tr [z] fun _ _ => False) [] H' b := fun {σ' H' s'} J none_ b hb => by
    obtain ⟨c1, c2, c3, c4, c5, _⟩ := far J none_ b hb
    refine ⟨c1, c2, c3, c4, c5, ?_⟩
    intro y hy
    cases List.mem_singleton.mp (show y ∈ [z] from hy)
    exact zap b hb
  have hotZ : HotC ((X.blk s3 H3 scope ce fp).tr [z] fun _ _ => False) := ⟨z, hot, List.mem_singleton.mpr rfl⟩
  have loop : codeAny (model X.prog X.w) X.A (.compLoop (.ListComp elt [⟨tg, iter, [], 0⟩] scope pos) 0 (.ref it) (.ref s2.heap.objs.size) ce) (compPost (model X.prog X.w) X.A X.xe none (EP X pins σ Q) (.ref s2.heap.objs.size) s3.heap.objs.size) s4 := by
    refine compLoop_any (fun n s' => ∃ i H', Inv (X.blk s3 H3 scope ce fp) [] (wipe σ (own.map (·.2))) H' s' ∧ tn i s'.heap ∧ (∀ b ∈ fp, H' b = none) ∧ W i n H') ?_ m0 ⟨0, H3, I4, start4, unseen, w0⟩
    rintro n s5 ⟨i, H5, I5, t5, n5, w5⟩
    rcases turn i n H5 w5 with ⟨stop, fin⟩ | ⟨go, Nx, reach, step⟩
    · refine thnF (T.done ((X.blk s3 H3 scope ce fp).tr [z] fun _ _ => False) rfl rfl rfl hotZ i [] s5 _ H5 (fun _ _ => False) (pin_block mem I3 cL zap I5) (farZ I5 n5) t5 stop) ?_
      rintro _ s6 ⟨rfl, J6⟩
      have I6 := unpin_block I5.ok J6
      have back : Inv X pins σ H5 s6 := I3.call' (ch := fp) I6.os I6.base I6.hok I6.bare fun b hb =>
        let c := (apart3 b hb).1.2
        ⟨c.2.2.1, c.1, c.2.2.2.1, c.2.2.2.2⟩
      have gone : H5 s3.heap.objs.size = none := by
        have e : H5 ce.locals = none := I6.free
        rw [cL] at e
        exact e
      obtain ⟨m, names, _⟩ := I6.loc
      obtain ⟨c0, c1, _, c3, c4, c5⟩ := I3.fpOk (H' := H5) (Nat.le_refl _) gone
      refine ⟨m, ?_, fun h' same => ⟨.ref s2.heap.objs.size, H5, back.turned (t' := s6.toks) (fun b o nb e => (same.2 b nb).trans e) c0 c1 c3 c4 c5, rfl, fin⟩⟩
      rw [← cL]
      exact names
    · refine thnF (T.item ((X.blk s3 H3 scope ce fp).tr [z] fun _ _ => False) rfl rfl rfl hotZ i [] s5 _ H5 (fun _ _ => False) (pin_block mem I3 cL zap I5) (farZ I5 n5) t5 go) ?_
      rintro _ s6 ⟨u, rfl, more⟩
      refine thnF more ?_
      rintro _ s7 ⟨x, H7, J7, r7, y7, t7, n7⟩
      have I7 := unpin_block I5.ok J7
      refine thnF (pg.run _ s7 _ H7 x u _ (I7.pinned (far I7 n7) (T.obj _ _ t7)) r7 (step x H7 y7)) ?_
      rintro _ s8 ⟨σ8, H8, I8, slots, q8⟩
      refine thnF ((show PTs (X.blk s3 H3 scope ce fp) [] tYes from pts_nil).run _ s8 σ8 H8 _ I8 q8) ?_
      rintro b s9 ⟨H9, I9, q9⟩
      have close : ∀ {s' : Shared} {H' : Hp}, Inv (X.blk s3 H3 scope ce fp) ([] ++ pinsAt fp s7.heap) σ8 H' s' → Nx H' → ∃ m, m < n ∧ ∃ i H', Inv (X.blk s3 H3 scope ce fp) [] (wipe σ (own.map (·.2))) H' s' ∧ tn i s'.heap ∧ (∀ b ∈ fp, H' b = none) ∧ W i m H' := fun {s' H'} J nx => by
        obtain ⟨m', lt, w'⟩ := reach H' nx
        have held : ∀ b ∈ fp, ∀ o, s7.heap.get? b = some o → s'.heap.get? b = some o ∧ H' b = none := fun b hb o e => by
          have y := J.pin (b, o) (List.mem_append_right _ (List.mem_append_right _ (mem_pinsAt hb e)))
          exact ⟨y.1, y.2.1⟩
        refine ⟨m', lt, i + 1, H', (J.unpinned (pins := [])).weak ?_ ?_, T.keep _ _ _ t7 fun b hb o e => (held b hb o e).1, fun b hb => ?_, w'⟩
        · rw [← slots, wipe_length]
        · intro j v e
          rw [← slots] at e
          exact (wipe_some e).1
        · obtain ⟨o, e, _⟩ := T.obj _ _ t7 b hb
          exact (held b hb o e).2
      cases b with
      | false => exact close I9 q9
      | true =>
        refine thnF (pe.run _ s9 σ8 H9 _ I9 q9) ?_
        rintro y s10 ⟨yv, H10, I10, r10, acc, hD, room, nx⟩
        exact app_ok (X := X.blk s3 H3 scope ce fp) I10 hD room r10 fun s11 I11 => close I11 nx
  exact codeAny_compStart_list loop (T.self X.A 0 _ _ _ start4 loop)
end XH

set_option Elab.async false
set_option linter.all false
set_option maxRecDepth 100000
set_option maxHeartbeats 4000000
/-! An own class of error called by a keyword; a field of an error that was made as a value. -/
namespace PySem
namespace XKw
open PySem.HandSPX Builtin Builtin.ObjectAttr
section
variable {M : Model} {prog : Program} {w : World} {A : Around} {E : Value → Shared → Prop} {R : Result → Shared → Prop} {h : Heap} {g : Array GenState} {d : Drawn} {t : Nat} {os : OsState} {kw : List (Str × Value)}
variable {nm q : Str} {C N : Addr} {bs bm bmB : List Value} {hdct : Bool} {sn : List Str} {sub : List Value} {ab : Bool} {col : Option Bool} {dd : Option Addr} {k0 k1 k2 k3 k5 : Option Value} {B newId initId : String}
theorem check_kw (FB : ExcBaseFacts B newId initId bmB) (same : ∀ Y : String, bm.contains (.type Y) = bmB.contains (.type Y)) {rest : List Value} {Q : Unit → Shared → Prop} (obj : h.get? C = some (excClassObj nm q C N bs bm hdct sn sub ab col dd k0 k1 k2 k3 k5 newId))
    (then_ : Q () ⟨h, g, d, t, os⟩) : wpAny M A (checkBuiltinCall newId ⟨.ref C :: rest, kw⟩) Q E ⟨h, g, d, t, os⟩ := by
  have hasB : (Value.ref C :: bm).contains (.type B) = true := by rw [List.contains_cons, same, FB.hasB, Bool.or_true]
  have star := FB.noStar
  simp only [checkBuiltinCall, FB.newKind, FB.newSplit, FB.newRow]
  repeat (first
    | refine wpAny_loadPart_at obj ?_
    | (refine wpAny_isSubtype_exc obj ?_; rw [hasB])
    | refine wpAny_staticBase_exc obj ?_
    | refine wpAny_madeBy_exc obj ?_
    | simp only [bne_self_eq_false, Bool.false_eq_true, if_false]
    | wp_step)
  exact then_
theorem new_kw (FB : ExcBaseFacts B newId initId bmB) (same : ∀ Y : String, bm.contains (.type Y) = bmB.contains (.type Y)) {rest : List Value} (obj : h.get? C = some (excClassObj nm q C N bs bm hdct sn sub ab col dd k0 k1 k2 k3 k5 newId)) (few : rest.length ≤ sizeLine)
    (then_ : R (.ok (.ret (.ref (h.objs.size + 1)))) ⟨(h.push (W.kdv_tup rest)).push (excO C h.objs.size), g, d, t, os⟩) : codeAny (model prog w) A (.builtin newId ⟨.ref C :: rest, kw⟩) R ⟨h, g, d, t, os⟩ := by
  have ends := FB.ends
  have inB : (Value.ref C :: bm).contains (.type B) = true := by rw [List.contains_cons, same, FB.hasB, Bool.or_true]
  have notA : (Value.ref C :: bm).contains (.type "AttributeError") = false := by rw [List.contains_cons, same, FB.noAttr]; rfl
  have notN : (Value.ref C :: bm).contains (.type "NameError") = false := by rw [List.contains_cons, same, FB.noName]; rfl
  refine codeAny_builtinAt FB.entry ?_
  unfold Builtin.«BaseException.__new__»
  refine wpAt_bind (show wpAt _ _ _ (stack >>= _) _ _ _ from wpAt_bind (wpAt_stack fun _ _ => wpAt_of_wpAny ?_))
  wp_walk
  refine wpAt_of_wpAny ?_
  rw [FB.owner]
  repeat (first
    | with_reducible refine wpAny_madeHere_exc FB.canon obj ?_
    | with_reducible refine wpAny_loadPart_at obj ?_
    | (with_reducible refine wpAny_isSubtype_exc obj ?_; first | rw [inB] | rw [notA] | rw [notN])
    | wp_step)
  have e : (h.push (W.kdv_tup rest)).objs.size = h.objs.size + 1 := Heap.size_push ..
  show R _ _
  rw [Heap.size_push]
  exact then_
/-- C(.., name=value): the error is laid, then its __init__ runs with the same arguments -/
theorem made_kw (FB : ExcBaseFacts B newId initId bmB) (same : ∀ Y : String, bm.contains (.type Y) = bmB.contains (.type Y)) {rest : List Value} {ini : Addr} {Q : Fin → Shared → Prop} (obj : h.get? C = some (excClassObj nm q C N bs bm hdct sn sub ab col dd k0 k1 k2 k3 k5 newId))
    (finds : W.Looks (model prog w) h (typeLookup (.ref C) "__init__") (some (.ref ini))) (binds : ∀ self, W.Looks (model prog w) h (bindSpecial (.ref ini) self) (.ref ini, [self])) (few : rest.length ≤ sizeLine)
    (then_ : codeAny (model prog w) A (.call (.ref ini) ⟨.ref (h.objs.size + 1) :: rest, kw⟩) (fun r s' => match r with | .ok (.ret v) => v = .none ∧ Q (.done (.ret (.ref (h.objs.size + 1)))) s' | .ok _ => False | .error e => E e s') ⟨(h.push (W.kdv_tup rest)).push (excO C h.objs.size), g, d, t, os⟩) :
    wpAny (model prog w) A (Builtin.«type.__call__» ⟨.ref C :: rest, kw⟩) Q E ⟨h, g, d, t, os⟩ := by
  repeat (first
    | with_reducible refine wpAny_loadPart_at obj ?_
    | with_reducible refine wpAny_madeBy_exc obj ?_
    | wp_step)
  refine codeAny_call_builtin_code (Code.quiet_builtin _ FB.quiet) (check_kw FB same obj (new_kw FB same obj few ?_))
  show wpAny _ _ _ _ _ _
  have on : ∀ b o, h.get? b = some o → ((h.push (W.kdv_tup rest)).push (excO C h.objs.size)).get? b = some o := fun b o e => Heap.get?_push_of_some _ (Heap.get?_push_of_some _ e)
  have obj2 := on _ _ obj
  have laid : ((h.push (W.kdv_tup rest)).push (excO C h.objs.size)).get? (h.objs.size + 1) = some (excO C h.objs.size) := by heap_get
  have own : (Value.ref C :: bm).contains (.ref C) = true := by simp
  have finds2 := finds.keeps on
  have binds2 := (binds (.ref (h.objs.size + 1))).keeps on
  unfold isInstance
  repeat (first
    | with_reducible refine wpAny_loadPart_at laid ?_
    | (with_reducible refine wpAny_isSubtype_exc obj2 ?_; rw [own])
    | wp_step)
  show wpAny _ _ (typeLookup (.ref C) _) _ _ _
  refine finds2.at (wpAny_holding (wpAny_bind (binds2.at (wpAny_bind (wpAny_call (codeAny_mono then_ ?_))))))
  rintro (bad | (v | _ | _ | _)) s' fin
  · exact fin
  · exact fin.elim
  · exact fin.elim
  · exact fin.elim
  · obtain ⟨rfl, fin⟩ := fin
    first
      | exact wpAny_pure (wpAny_pure fin)
      | (wp_walk; exact fin)
theorem check_call (obj : h.get? C = some (excClassObj nm q C N bs bm hdct sn sub ab col dd k0 k1 k2 k3 k5 newId)) {rest : List Value} {Q : Unit → Shared → Prop} (then_ : Q () ⟨h, g, d, t, os⟩) : wpAny M A (checkBuiltinCall "type.__call__" ⟨.ref C :: rest, kw⟩) Q E ⟨h, g, d, t, os⟩ := by
  have sub := tc_sub
  have isType : (⟨h, g, d, t, os⟩ : Shared).TypeIs (.ref C) "type" := ⟨_, obj, rfl⟩
  simp only [checkBuiltinCall, tc_kind, tc_split]
  repeat (any_goals (first
    | assumption
    | with_reducible refine wpAny_loadPart_at obj ?_
    | with_reducible refine wpAny_onRaise ?_
    | with_reducible refine wpAny_map ?_
    | wp_step))
theorem call_kw (FB : ExcBaseFacts B newId initId bmB) (same : ∀ Y : String, bm.contains (.type Y) = bmB.contains (.type Y)) {rest : List Value} {ini : Addr} (obj : h.get? C = some (excClassObj nm q C N bs bm hdct sn sub ab col dd k0 k1 k2 k3 k5 newId))
    (finds : W.Looks (model prog w) h (typeLookup (.ref C) "__init__") (some (.ref ini))) (binds : ∀ self, W.Looks (model prog w) h (bindSpecial (.ref ini) self) (.ref ini, [self])) (few : rest.length ≤ sizeLine)
    (then_ : codeAny (model prog w) (A.under (.builtin "type.__call__" ⟨.ref C :: rest, kw⟩)) (.call (.ref ini) ⟨.ref (h.objs.size + 1) :: rest, kw⟩) (W.InitBack (h.objs.size + 1) R) ⟨(h.push (W.kdv_tup rest)).push (excO C h.objs.size), g, d, t, os⟩) :
    codeAny (model prog w) A (.call (.ref C) ⟨rest, kw⟩) R ⟨h, g, d, t, os⟩ := by
  have tl := tc_lookup
  have tb := tc_bind (.ref C)
  have isType : (⟨h, g, d, t, os⟩ : Shared).TypeIs (.ref C) "type" := ⟨_, obj, rfl⟩
  refine codeAny_of_tree (show wpAny _ _ (callAny (.ref C) _) _ _ _ from ?_)
  repeat (any_goals (first
    | assumption
    | with_reducible refine wpAny_loadPart_at obj ?_
    | wp_step))
  refine ⟨rfl, codeAny_call_builtin_at (Code.quiet_builtin _ (by decide +kernel)) entry_typeCall (check_call obj (made_kw FB same obj finds binds few (codeAny_mono then_ ?_)))⟩
  rintro (bad | (v | _ | _ | _)) s' fin <;> exact fin
end
end XKw
end PySem
namespace XR
open PySem PySem.Spec PyProof.Rows L2
section
variable {X : Cx} {CX : CXT} {n : Nat} {C ini : Addr} {fd : FuncData} {names ks : List Str} {pr : Sp} {gf : List Value → List Value → List Value} {gV : List V → List V → List V}
def tErrK (C : Addr) (pr : Sp) (gV : List V → List V → List V) (m : Nat) (tk : TA) : L2.St → Hp → XK → Prop := fun σ H Kx => tk σ H fun zs H1 => zs.length = m ∧ ∀ a, H1 a = none → pr (gV [.ref a] zs) (upd H1 a (exo a C none))
  (fun v h' => v = .non ∧ ∃ (d : Addr) (fs : List (Str × V)), h' a = some (exo a C (some d)) ∧ h' d = some (exd d fs) ∧ H1 d = none ∧ Kx (.ref C) (some d) (upd (del h' a) d (.xd fs))) (fun _ _ _ => False)
/-- raise C(name=e, ..) -/
theorem pmk_errK {x : Str} {p pos : Pos} {kws : List Keyword} {tk : TA} (T : OexC X.K C) (find : PySem.W.findIn X.K (.ref C) "__init__" = some (some (.ref ini))) (isf : PySem.W.typeIn X.K (.ref ini) = some (.type "function")) (F : FnOk X.prog X.w X.K X.mg X.base CX n ini fd names pr) (room : Room (n + 1) X.A)
    (bind : KBn X.K fd names 1 ks gf gV) (none_out : Passes CX X (fun _ _ _ => False)) (hg : Gl X x) (hm : X.mg x = some (.ref C)) (hkw : PK X kws tk) (all : (backToKw pos (keywordEach kws X.env)).all (·.1.isSome) = true := by rfl) (eks : (backToKw pos (keywordEach kws X.env)).filterMap (·.1) = ks := by rfl)
    (dbg : (x == ("__debug__" : Str)) = false := by decide) (st2 : ((backTo pos (starEach [] X.env)).any (·.1) || (backToKw pos (keywordEach kws X.env)).any (·.1.isNone)) = false := by rfl) :
    L2N.PMk X (.Call (.Name x p) [] kws pos) (tErrK C pr gV ks.length tk) := by
  intro pins s σ H Kx I told
  refine wpAny_Call_Name_kw (ld_glob I hg hm (PySem.W.callWith_KW0 (h₀ := X.base) I.ok.mod.kin T.kC all (thn (hkw.run pos pins s σ H _ I told) ?_) st2) dbg)
  rintro ws s1 ⟨zs, H1, J1, rel, len, told⟩
  refine ⟨J1.kIn, ?_⟩
  rw [eks]
  obtain ⟨_, _, _, _, mro, _, _, _, _, _, _, _, _, _, _, cobj, mroOk⟩ := T.cls
  obtain ⟨hh, gs, dr, tk, os⟩ := s1
  have above : hh.objs.size ≤ hh.objs.size + 1 := Nat.le_succ _
  have want := told (hh.objs.size + 1) (J1.hok.fresh above)
  have grown : ∀ b u, hh.get? b = some u → ((hh.push (PySem.W.kdv_tup [])).push (PySem.HandSPX.excO C hh.objs.size)).get? b = some u := fun b u z => Heap.get?_push_of_some _ (Heap.get?_push_of_some _ z)
  have there : ((hh.push (PySem.W.kdv_tup [])).push (PySem.HandSPX.excO C hh.objs.size)).get? (hh.objs.size + 1) = some (PySem.HandSPX.excO C hh.objs.size) := by heap_get
  have J : Inv X pins σ (upd H1 (hh.objs.size + 1) (exo (hh.objs.size + 1) C none)) ⟨(hh.push (PySem.W.kdv_tup [])).push (PySem.HandSPX.excO C hh.objs.size), gs, dr, tk, os⟩ := J1.laid grown above (exo_ok there)
  have self : Vals [V.ref (hh.objs.size + 1)] [Value.ref (hh.objs.size + 1)] := .cons rfl .nil
  have bound := bind.to ⟨(hh.push (PySem.W.kdv_tup [])).push (PySem.HandSPX.excO C hh.objs.size), gs, dr, tk, os⟩ [Value.ref (hh.objs.size + 1)] ws J.kIn rfl (rel.length.symm.trans len)
  have run := F.run _ X.stack _ _ ⟨[Value.ref (hh.objs.size + 1)], ks.zip ws⟩ _ _ _ (fun _ _ _ => False) (room.make C [] (ks.zip ws)) (J.env0.make C [] (ks.zip ws)) bound (bind.rel self rel) want
  refine wpAny_call (PySem.XKw.call_kw PySem.F.excBase_ValueError (fun Y => PySem.HandSPX.refsVE_contains Y mro mroOk) (J1.kIn _ _ cobj) (PySem.W.looks_findIn J1.kIn find) (fun self => PySem.W.bind_fn J1.kIn self isf) (Nat.zero_le _) (codeAny_mono run ?_))
  rintro (bad | flow) s' fin
  · exact none_out pins σ _ _ bad s' J fin
  · exact match flow, fin with
    | .ret u, fin => by
      obtain ⟨v, h', sameOs, bare, un, good, rv, rfl, d, fs, at_a, at_d, newd, out⟩ := fin
      obtain ⟨h2, g2, d2, t2, os2⟩ := s'
      obtain ⟨t0, G, JG, keepG, goneA, objA, noneA⟩ := mk_end0 (d2 := d2) (t2 := t2) J1 above grown un good sameOs bare at_a at_d newd
      refine ⟨rv, hh.objs.size + 1, _, _, ⟨G, g2, d2, t2, os2⟩, _, .ref C, some d, rfl, JG, keepG, goneA, objA, ⟨rfl, rfl, ?_⟩, rfl, rfl, noneA, rfl, bare, raises_own T.exC T.tyC, out⟩
      rintro _ ⟨⟩
      rfl
    | .next, fin => False.elim fin
    | .brk, fin => False.elim fin
    | .cont, fin => False.elim fin
end
/-- a field of an error that was made here and is not kept -/
def tErrF (C : Addr) (fld : Str) (t : L2.St → Hp → XK → Prop) : TE := fun σ H Q => t σ H fun cls d H' => cls = .ref C ∧ ∃ (dd : Addr) (fs : List (Str × V)) (v : V), d = some dd ∧ H' dd = some (.xd fs) ∧ fs.lookup fld = some v ∧ Q v H'
theorem pe_errF {X : Cx} {C : Addr} {e : Expr} {t : L2.St → Hp → XK → Prop} {pos : Pos} {fld : Str} (mk : L2N.PMk X e t) (T : XfC X.K C) (free : PySem.W.findIn X.K (.ref C) fld = some none) (hb : attributeBase e fld X.env (eval e X.env) = eval e X.env := by rfl) :
    PE X (.Attribute e fld pos) (tErrF C fld t) := by
  constructor
  intro pins s σ H Q I told
  refine attr_of hb (thn (mk pins s σ H _ I told) ?_)
  rintro u s1 ⟨a, oe, vs, sI, H', cls, d, rfl, J, keeps, newA, obj, hz, data, h1, noneA, sameOs, bare, raises, rfl, dd, fs, v, rfl, at_d, look, q⟩
  have J1 : Inv X pins σ H' s1 := by
    have K1 := J.call' (ch := []) (s' := s1) (H' := H') sameOs (Un.kept keeps) (J.hok.kept keeps) bare (fun _ y => nomatch y)
    exact K1
  obtain ⟨mA, names, rels⟩ : ObjOk X.prog X.w H' s1.heap dd (.xd fs) := J1.hok dd _ at_d
  obtain ⟨od, dobj, find⟩ := lookIn_ns names
  obtain ⟨w, hw, rw⟩ := RelO.some_of (v := v) (o := mA fld) (by rw [← look]; exact rels fld)
  have inst : PySem.W.InstAt s1.heap a oe C (some od) := ⟨obj, hz.1, by unfold PySem.W.notCls; rw [data] <;> rfl, by rw [hz.2.1]; exact dobj⟩
  exact PySem.HandSPX.exc_get J1.kIn inst T.ga T.gg T.exC (PySem.W.findObj_own T.hdC free rfl (by rw [find, hw])) (handed_of rw) ⟨v, H', J1.tok _, rw, q⟩
end XR

set_option Elab.async false
set_option maxRecDepth 100000
namespace RX
open PySem L2
/-! ### errors, Ratio with a bottom of 0, over -/
abbrev sWi : Stmt := inClass (topS 3) 0
abbrev sOver : Stmt := inClass (topS 15) 8
def spW (K : PySem.W.Frag) : Sp := fun vs H Q _ => ∃ (a C : Addr) (v : V), vs = [.ref a, v] ∧ OexC K C ∧ PySem.W.findIn K (.ref C) "what" = some none ∧ H a = some (exo a C none) ∧ ∀ dx, H dx = none → dx ≠ a → Q .non (upd (upd H dx (exd dx [("what", v)])) a (exo a C (some dx)))
/-- the names of the law's errors: D 0 to D 9, and their base D 10 -/
structure Errs (K : PySem.W.Frag) (mg : Str → Option Value) (fW : Addr) (D : Nat → Addr) : Prop where
  oex : ∀ i, i ≤ 10 → OexC K (D i)
  ini : ∀ i, i ≤ 10 → PySem.W.findIn K (.ref (D i)) "__init__" = some (some (.ref fW))
  no : ∀ i, i ≤ 10 → PySem.W.findIn K (.ref (D i)) "what" = some none
  fn : PySem.W.typeIn K (.ref fW) = some (.type "function")
  xf : ∀ i, i ≤ 10 → XfC K (D i)
  cl : ∀ i, i ≤ 10 → XH.ErrC K (D i)
  kit : ∀ i j, i ≤ 10 → j ≤ 9 → PySem.W.kitOne K (.ref (D i)) (.ref (D j)) = some (decide (i = j))
  kitV : ∀ i, i ≤ 10 → PySem.W.kitOne K (.ref (D i)) (.type "ValueError") = some true
  kitW : ∀ i, i ≤ 10 → PySem.W.kitOne K (.ref (D i)) (.ref (D 10)) = some true
  exm : ∀ i, i ≤ 10 → PySem.W.exmOne K (.ref (D i)) (.ref (D 10)) = some true
  exm6 : PySem.W.exmOne K (.ref (D 6)) (.ref (D 6)) = some true
  m0 : mg "BadNumber" = some (.ref (D 0))
  m1 : mg "BadMachine" = some (.ref (D 1))
  m2 : mg "BadWord" = some (.ref (D 2))
  m3 : mg "BadStar" = some (.ref (D 3))
  m4 : mg "BadText" = some (.ref (D 4))
  m5 : mg "BadPaper" = some (.ref (D 5))
  m6 : mg "BadDeed" = some (.ref (D 6))
  m7 : mg "TooMany" = some (.ref (D 7))
  m8 : mg "Unknown" = some (.ref (D 8))
  m9 : mg "Taken" = some (.ref (D 9))
  m10 : mg "WordError" = some (.ref (D 10))
/-- what is left when an error with v in it flies -/
structure Flies (H : Hp) (v : V) (dd : Addr) (H' : Hp) : Prop where
  s : Same H H'
  n : H dd = none
  x : H' dd = some (.xd [("what", v)])
def spInitX (C B : Addr) : Sp := fun vs H Q E => spInit C vs H Q E ∨ ∃ (p dx : Addr) (t : Int), vs = [.ref p, .int t, .int 0] ∧ H p = some (.ins C dx []) ∧ ∀ dd H', Flies H .non dd H' → E (.ref B) (some dd) H'
def spOverX (C B : Addr) : Sp := fun vs H Q E => ∃ (p q : Addr) (n d m e : Int), vs = [.ref p, .ref q] ∧ RatAt C H p n d ∧ RatAt C H q m e ∧ d ≠ 0 ∧ Sm n ∧ Sm d ∧ Sm m ∧ Sm e ∧ ((m ≠ 0 ∧ ∀ (r : Addr) (H' : Hp), Same H H' → H r = none → RatAt C H' r (RT.top (n * e) (d * m)) (RT.bot (n * e) (d * m)) → Q (.ref r) H') ∨
  (m = 0 ∧ ∀ dd H', (∃ H1, Same H H1 ∧ Flies H1 .non dd H') → E (.ref B) (some dd) H'))
section
variable {P : Program} {w : World} {K : PySem.W.Frag} {mg : Str → Option Value} {base : Heap}
theorem scWi : FnScope ["self", "what"] ["self", "what"] (defScope sWi) := ⟨rfl, rfl, rfl, by decide +kernel, rfl, by decide +kernel, by decide +kernel⟩
theorem scOv : FnScope ["self", "other"] ["self", "other"] (defScope sOver) := ⟨rfl, rfl, rfl, by decide +kernel, rfl, by decide +kernel, by decide +kernel⟩
theorem ok_W {f : Addr} {fd : FuncData} (F : FunD K "__init__" "WordError.__init__" (defArgs sWi) (defBody sWi) (defScope sWi) [.non] [] f fd) : FnOk P w K mg base CX0 1 f fd ["self", "what"] (spW K) := by
  refine F.ok scWi (fun vs H Q E h => ?_) (fun cdv A outer s H vs Q E hr h => ?_)
  · obtain ⟨a, C, v, rfl, _⟩ := h
    rfl
  · obtain ⟨a, C, v, rfl, T, no, ha, kk⟩ := h
    refine ⟨_, pss_one (ps_ost (pv 0) (pv 1)), ?_⟩
    exact ⟨_, rfl, _, rfl, a, C, rfl, T, no, .inl ⟨ha, kk⟩⟩
theorem raise_in {C : Addr} {H : Hp} {v : V} {W : XK} {E : XK} (T : OexC K C) (no : PySem.W.findIn K (.ref C) "what" = some none) (told : ∀ dd H', Flies H v dd H' → W (.ref C) (some dd) H') :
    ∀ a, H a = none → spW K [.ref a, v] (upd H a (exo a C none)) (fun u h' => u = .non ∧ ∃ (d : Addr) (fs : List (Str × V)), h' a = some (exo a C (some d)) ∧ h' d = some (exd d fs) ∧ H d = none ∧ W (.ref C) (some d) (upd (del h' a) d (.xd fs))) E := by
  intro a na
  refine ⟨a, C, v, rfl, T, no, upd_same, fun dx ndx ne => ⟨rfl, dx, [("what", v)], upd_same, by rw [upd_ne ne, upd_same], ?_, ?_⟩⟩
  · rw [upd_ne ne] at ndx
    exact ndx
  · rw [upd_ne ne] at ndx
    refine told dx _ ⟨fun b o e => ?_, ndx, upd_same⟩
    have b1 : b ≠ a := ne_of_none e na
    have b2 : b ≠ dx := ne_of_none e ndx
    rw [upd_ne b2, del_ne b1, upd_ne b1, upd_ne b2, upd_ne b1]
    exact e
theorem ok_initX {f fW C : Addr} {fd dW : FuncData} {D : Nat → Addr} (F : FunD K "__init__" "Ratio.__init__" (defArgs sInit) (defBody sInit) (defScope sInit) [.int 1] [] f fd) (T : TxtR K mg C) (R : Errs K mg fW D) (GW : FnOk P w K mg base CX0 1 fW dW ["self", "what"] (spW K))
    (bW : ∃ ds, Vals [V.non] ds ∧ Binds K dW ["self", "what"] ds) : FnOk P w K mg base (L2N.CX P w) 3 f fd ["self", "top", "bottom"] (spInitX C (D 0)) := by
  obtain ⟨ds, vds, bW⟩ := bW
  refine FnOk.imp (FnOk.mono ?_ (Nat.le_refl 3)) fun _ _ _ _ z => z
  refine F.ok scI (fun vs H Q E h => ?_) (fun cdv A outer s H vs Q E hr h => ?_)
  · rcases h with ⟨p, dx, t, b, rfl, _⟩ | ⟨p, dx, t, rfl, _⟩
    · rfl
    · rfl
  · obtain ⟨_, PP⟩ : ∃ t, PSs (cxOf (L2N.CX P w) P w K mg base ["self", "top", "bottom", "shared", "by"] "Ratio.__init__" (defScope sInit) f cdv A outer s H E) (defBody sInit) t ∧ t { nx := fun _ H' => Q .non H', rt := Q } (L2.start ["self", "top", "bottom", "shared", "by"] vs) H := by
      refine ⟨_, pss_cons (ps_if (pt_cmpR op_eq (pv 2) pe_int (nomark _)) (pss_one (L2N.ps_raise rfl (L2N.takes_of rfl rfl rfl rfl) (XR.pmk_err0 (R.oex 0 (by decide)) (R.ini 0 (by decide)) R.fn GW hr bW vds pass0 (by rfl) R.m0))) pss_nil)
        (pss_cons (ps_set (i := 3) scI.nd rfl (Or.inl rfl) (pe_callBfun cr_gcd (by rfl) T.gcd (pa_cons (pv 1) (pa_cons (pv 2) pa_nil))))
        (pss_cons (ps_set (i := 4) scI.nd rfl (Or.inl rfl) (pe_ifExp (pt_cmpR op_gt (pv 2) pe_int (nomark _)) (pv 3) (pe_un un_neg (pv 3))))
        (pss_cons (ps_fld (pv 0) (pe_op op_fdivZ (pv 1) (pv 4)) rfl)
        (pss_one (ps_fld (pv 0) (pe_op op_fdivZ (pv 2) (pv 4)) rfl))))), ?_⟩
      rcases h with ⟨p, dx, t, b, rfl, hp, hb, hz, k⟩ | ⟨p, dx, t, rfl, hp, k⟩
      · refine ⟨_, rfl, rfl, _, rfl, ?_⟩
        refine ite2 (fun z => ?_) (fun _ => ?_)
        · have z' := of_decide_eq_true z
          injection z' with z'
          exact absurd z' hb
        refine ⟨_, rfl, _, rfl, t, b, rfl, ?_⟩
        refine ⟨_, rfl, _, _, rfl, rfl, _, rfl, ?_⟩
        have by_ne := RT.byv_ne (t := t) hb
        have by_le := RT.byv_le (t := t) hb
        have hdiv : ∀ x y : Int, y = RT.byv t b → CDivZ x y := fun x y e => by
          subst e
          exact divZ by_ne (Nat.lt_of_le_of_lt by_le hz) (by decide) (by decide)
        have key : (if decide (b > 0) = true then RT.gg t b else -RT.gg t b) = RT.byv t b := by
          unfold RT.byv
          by_cases h0 : b > 0
          · rw [if_pos h0, if_pos (decide_eq_true h0)]
          · rw [if_neg h0, if_neg (by rw [decide_eq_false h0]; exact Bool.false_ne_true)]
        have fin : ∀ x : Int, x = RT.byv t b → Q .non (upd (upd H p (.ins C dx (putF "top" (.int (t.fdiv x)) []))) p (.ins C dx (putF "bottom" (.int (b.fdiv x)) (putF "top" (.int (t.fdiv x)) [])))) := fun x e => by
          subst e
          refine k _ ⟨dx, upd_same⟩ fun c o hc ne => ?_
          rw [upd_ne ne, upd_ne ne]
          exact hc
        refine ite2 (fun z => ?_) (fun z => ?_)
        · rw [if_pos z] at key
          refine ⟨_, rfl, _, rfl, _, rfl, _, _, rfl, rfl, (hdiv t _ key), _, rfl, p, C, dx, [], rfl, hp, T.cl, T.nT, (by show 0 < 1000; decide), ?_⟩
          exact ⟨_, rfl, _, rfl, _, _, rfl, rfl, (hdiv b _ key), _, rfl, p, C, dx, _, rfl, upd_same, T.cl, T.nB, (by show 1 < 1000; decide), fin _ key⟩
        · rw [if_neg z] at key
          refine ⟨_, rfl, _, rfl, _, rfl, _, rfl, _, _, rfl, rfl, (hdiv t _ key), _, rfl, p, C, dx, [], rfl, hp, T.cl, T.nT, (by show 0 < 1000; decide), ?_⟩
          exact ⟨_, rfl, _, rfl, _, _, rfl, rfl, (hdiv b _ key), _, rfl, p, C, dx, _, rfl, upd_same, T.cl, T.nB, (by show 1 < 1000; decide), fin _ key⟩
      · refine ⟨_, rfl, rfl, _, rfl, ?_⟩
        refine iteT ?_
        exact ⟨(by show 0 ≤ 1000; decide), raise_in (R.oex 0 (by decide)) (R.no 0 (by decide)) k⟩
    exact ⟨_, PP⟩
end
end RX

set_option Elab.async false
set_option maxRecDepth 100000
namespace RX
open PySem L2
section
variable {P : Program} {w : World} {K : PySem.W.Frag} {mg : Str → Option Value} {base : Heap}
theorem ok_overX {f fI C B : Addr} {fd dI : FuncData} (F : Fun K "over" "Ratio.over" sOver f fd) (T : TxtR K mg C) (M : Mk K C fI) (GI : FnOk P w K mg base (L2N.CX P w) 3 fI dI ["self", "top", "bottom"] (spInitX C B)) (bI : Binds K dI ["self", "top", "bottom"] []) :
    FnOk P w K mg base (L2N.CX P w) 5 f fd ["self", "other"] (spOverX C B) := by
  refine XR.ok_out F scOv (fun vs H Q E h => ?_) (fun cdv A outer s H vs Q E hr h => ?_)
  · obtain ⟨p, q, n, d, m, e, rfl, _⟩ := h
    rfl
  · refine ⟨_, pss_one (ps_ret (XR.pe_makeS (E := fun _ => E) M GI hr (by rfl) T.mgC bI .nil (fun σ => L2N.passAt (L2N.takes_of rfl rfl rfl rfl) σ) (pa_cons (pe_op op_mulW (pe_fld (pv 0) rfl) (pe_fld (pv 1) rfl)) (pa_cons (pe_op op_mulW (pe_fld (pv 0) rfl) (pe_fld (pv 1) rfl)) pa_nil)))), ?_⟩
    obtain ⟨p, q, n, d, m, e, rfl, ⟨dx, hp⟩, ⟨dy, hq⟩, hd, sn, sd, sm, se, kk⟩ := h
    refine ⟨_, rfl, p, C, dx, _, _, rfl, hp, T.cl, T.nT, rf_top _ _, _, rfl, q, C, dy, _, _, rfl, hq, T.cl, T.nB, rf_bot _ _, _, _, rfl, rfl, Sm.w sn se, ?_⟩
    refine ⟨_, rfl, p, C, dx, _, _, rfl, hp, T.cl, T.nB, rf_bot _ _, _, rfl, q, C, dy, _, _, rfl, hq, T.cl, T.nT, rf_top _ _, _, _, rfl, rfl, Sm.w sd sm, ?_⟩
    rcases kk with ⟨hm, k⟩ | ⟨hm, k⟩
    · intro x dd nx nd ne
      exact .inl (make_in (Int.mul_ne_zero hd hm) (Sm.md sd sm) k x dd nx nd ne)
    · intro x dd nx nd ne
      subst hm
      show spInitX C B [.ref x, .int (n * e), .int (d * 0)] _ _ _
      rw [Int.mul_zero]
      exact .inr ⟨x, dd, _, rfl, upd_same, fun de H' fl => k de H' ⟨_, Same.made nx nd (fun _ _ h _ => h), fl⟩⟩
end
end RX

set_option Elab.async false
set_option maxRecDepth 100000
namespace RX
open PySem L2 L2H XH
abbrev sMarks : Stmt := topS 23
abbrev sDue : Stmt := topS 24
def marksV (i : Nat) : List V := (List.range 10).map (fun j => V.bl (decide (i = j))) ++ [.bl true, .bl true]
def marksD (i : Nat) : List PyData := (List.range 10).map (fun j => PyData.bool (decide (i = j))) ++ [.bool true, .bool true]
/-- the error at hand is a D i, with these fields -/
structure HotIs (D : Nat → Addr) (z : Addr × Obj) (i : Nat) (dd : Addr) : Prop where
  le : i ≤ 10
  cls : z.2.cls = .ref (D i)
  dat : ∃ ws, z.2.data = .fields ws
  dic : z.2.dict = some dd
def spMarks (D : Nat → Addr) : SpP := fun z vs H Q _ => ∃ (i : Nat) (dd : Addr) (fs : List (Str × V)), vs = [.ref z.1] ∧ HotIs D z i dd ∧ H dd = some (.xd fs) ∧ ∀ (r : Addr) (H' : Hp), Same H H' → H r = none → H' r = some (.lst (marksV i)) → Q (.ref r) H'
def spDue : SpP := fun _ vs H Q _ => ∃ i : Nat, vs = [.int (i : Int)] ∧ ∀ (r : Addr) (H' : Hp), Same H H' → H r = none → H' r = some (.lst (marksV i)) → Q (.ref r) H'
section
variable {P : Program} {w : World} {K : PySem.W.Frag} {mg : Str → Option Value} {base : Heap}
theorem scMk : FnScope ["e", "one", "two", "more"] ["e"] (defScope sMarks) := ⟨rfl, rfl, rfl, by decide +kernel, rfl, by decide +kernel, by decide +kernel⟩
theorem scDu : FnScope ["k", "place"] ["k"] (defScope sDue) := ⟨rfl, rfl, rfl, by decide +kernel, rfl, by decide +kernel, by decide +kernel⟩
theorem ok_due {f : Addr} {fd : FuncData} (F : Fun K "_law_due_marks" "_law_due_marks" sDue f fd) (T : TxtL mg) : FnP P w K mg base CX0 1 f fd ["k"] spDue := by
  refine ok_hot F scDu (fun z vs H Q E h => ?_) (fun cdv z A outer s H vs Q E hot hr h => ?_)
  · obtain ⟨i, rfl, _⟩ := h
    rfl
  · obtain ⟨i, rfl, k⟩ := h
    refine ⟨_, pss_one (ps_ret (pe_op op_cat (pe_lcHot (z := z) (own := [("place", 1)]) (g := gName 1) hot (List.mem_singleton.mpr rfl) scDu.nd (pi_range1H (by rfl) T.range (pa_cons pe_int pa_nil)) (blkOk_by (N := ["k", "place"]) (sc := defScope sDue) (by decide +kernel))
        (fun _ _ _ _ _ => pg_name (i := 1) scDu.nd rfl (Or.inl rfl)) (fun _ _ _ _ _ => pe_cmpR op_eq (pv 1) (pv 0) (nomark _)))
      (pe_lst (pa_cons pe_bl (pa_cons pe_bl pa_nil))))), ?_⟩
    refine ⟨_, rfl, by decide, by decide, fun D nD => ?_⟩
    refine lc_range (lo := 0) (n := 10) (fun i' H2 => Same H H2 ∧ H2 D = some (.lst (((List.range 10).take i').map (fun j => V.bl (decide (i = j)))))) ⟨Same.upd nD, upd_same⟩ ?_ ?_
    · rintro i' H2 hi ⟨s2, hD⟩
      refine ⟨rfl, ?_⟩
      have eqb : decide (V.int (0 + (i' : Int)) = V.int (i : Int)) = decide (i = i') := by
        by_cases e : i = i'
        · subst e
          rw [decide_eq_true rfl, decide_eq_true (by rw [Int.zero_add])]
        · rw [decide_eq_false e, decide_eq_false (fun z => e (by injection z with z; omega))]
      refine ⟨_, rfl, _, rfl, ?_⟩
      refine ⟨rfl, _, hD, ?_, ?_⟩
      · rw [List.length_map, List.length_take]
        exact Nat.lt_of_le_of_lt (Nat.min_le_left _ _) (small1000 (by omega))
      · refine ⟨fun b o e => ?_, ?_⟩
        · rw [upd_ne (ne_of_none e nD)]
          exact s2 _ _ e
        · have hr10 : (List.range 10)[i']? = some i' := by
            rw [List.getElem?_range hi]
          rw [upd_same, List.take_add_one, hr10, List.map_append]
          show some (HO.lst (_ ++ [V.bl (decide (V.int (0 + (i' : Int)) = V.int (i : Int)))])) = _
          rw [eqb]
          rfl
    · rintro H2 ⟨s2, hD⟩
      refine ⟨(by show 2 ≤ sizeLine; decide), fun r nr => ?_⟩
      have nrD : D ≠ r := ne_of_none hD nr
      refine ⟨D, r, _, _, rfl, rfl, by rw [upd_ne nrD]; exact hD, upd_same, ?_, fun p np => ?_⟩
      · exact Nat.le_of_lt (small1000 (by rw [List.length_map, List.length_take, List.length_range]; decide))
      · refine k p _ ((s2.trans (Same.upd nr)).trans (Same.upd np)) ((s2.trans (Same.upd nr)).free np) ?_
        rw [upd_same]
        rfl
theorem only_ref {a : Addr} : ∀ u, RelV (.ref a) u → u = .ref a := fun _ r => r
theorem only_ty {t : String} : ∀ u, RelV (.ty t) u → u = .type t := fun _ r => r
theorem ok_marks {f fW : Addr} {fd : FuncData} {D : Nat → Addr} (F : Fun K "_law_marks" "_law_marks" sMarks f fd) (T : TxtL mg) (R : Errs K mg fW D) (mv : mg "ValueError" = none) : FnP P w K mg base CX0 1 f fd ["e"] (spMarks D) := by
  refine ok_hot F scMk (fun z vs H Q E h => ?_) (fun cdv z A outer s H vs Q E hot hr h => ?_)
  · obtain ⟨i, dd, fs, rfl, _⟩ := h
    rfl
  · obtain ⟨i, dd, fs, rfl, ⟨le, hcls, hdat, hdic⟩, hd, k⟩ := h
    have ec := R.cl i le
    refine ⟨_, pss_cons (ps_set (i := 1) scMk.nd rfl (.inl rfl) (pe_lst (pa_cons (pe_callB (call_isP (List.mem_singleton.mpr rfl) ec hcls hdat) (by rfl) T.isi (by decide +kernel) (pa_cons (pv 0) (pa_cons (pe_glob (v := .ref (D 0)) (by rfl) R.m0 rfl) pa_nil)))
          (pa_cons (pe_callB (call_isP (List.mem_singleton.mpr rfl) ec hcls hdat) (by rfl) T.isi (by decide +kernel) (pa_cons (pv 0) (pa_cons (pe_glob (v := .ref (D 1)) (by rfl) R.m1 rfl) pa_nil)))
          (pa_cons (pe_callB (call_isP (List.mem_singleton.mpr rfl) ec hcls hdat) (by rfl) T.isi (by decide +kernel) (pa_cons (pv 0) (pa_cons (pe_glob (v := .ref (D 2)) (by rfl) R.m2 rfl) pa_nil)))
          (pa_cons (pe_callB (call_isP (List.mem_singleton.mpr rfl) ec hcls hdat) (by rfl) T.isi (by decide +kernel) (pa_cons (pv 0) (pa_cons (pe_glob (v := .ref (D 3)) (by rfl) R.m3 rfl) pa_nil)))
          pa_nil))))))
      (pss_cons (ps_set (i := 2) scMk.nd rfl (.inl rfl) (pe_lst (pa_cons (pe_callB (call_isP (List.mem_singleton.mpr rfl) ec hcls hdat) (by rfl) T.isi (by decide +kernel) (pa_cons (pv 0) (pa_cons (pe_glob (v := .ref (D 4)) (by rfl) R.m4 rfl) pa_nil)))
          (pa_cons (pe_callB (call_isP (List.mem_singleton.mpr rfl) ec hcls hdat) (by rfl) T.isi (by decide +kernel) (pa_cons (pv 0) (pa_cons (pe_glob (v := .ref (D 5)) (by rfl) R.m5 rfl) pa_nil)))
          (pa_cons (pe_callB (call_isP (List.mem_singleton.mpr rfl) ec hcls hdat) (by rfl) T.isi (by decide +kernel) (pa_cons (pv 0) (pa_cons (pe_glob (v := .ref (D 6)) (by rfl) R.m6 rfl) pa_nil)))
          (pa_cons (pe_callB (call_isP (List.mem_singleton.mpr rfl) ec hcls hdat) (by rfl) T.isi (by decide +kernel) (pa_cons (pv 0) (pa_cons (pe_glob (v := .ref (D 7)) (by rfl) R.m7 rfl) pa_nil)))
          pa_nil))))))
      (pss_cons (ps_set (i := 3) scMk.nd rfl (.inl rfl) (pe_lst (pa_cons (pe_callB (call_isP (List.mem_singleton.mpr rfl) ec hcls hdat) (by rfl) T.isi (by decide +kernel) (pa_cons (pv 0) (pa_cons (pe_glob (v := .ref (D 8)) (by rfl) R.m8 rfl) pa_nil)))
          (pa_cons (pe_callB (call_isP (List.mem_singleton.mpr rfl) ec hcls hdat) (by rfl) T.isi (by decide +kernel) (pa_cons (pv 0) (pa_cons (pe_glob (v := .ref (D 9)) (by rfl) R.m9 rfl) pa_nil)))
          (pa_cons (pe_callB (call_isP (List.mem_singleton.mpr rfl) ec hcls hdat) (by rfl) T.isi (by decide +kernel) (pa_cons (pv 0) (pa_cons (pe_bltn (v := .ty "ValueError") (by rfl) mv (by decide +kernel) rfl) pa_nil)))
          (pa_cons (pe_callB (call_isP (List.mem_singleton.mpr rfl) ec hcls hdat) (by rfl) T.isi (by decide +kernel) (pa_cons (pv 0) (pa_cons (pe_glob (v := .ref (D 10)) (by rfl) R.m10 rfl) pa_nil)))
          pa_nil))))))
      (pss_one (ps_ret (pe_op op_cat (pe_op op_cat (pv 1) (pv 2)) (pv 3)))))), ?_⟩
    refine ⟨_, rfl, _, _, _, _, _, rfl, only_ref, R.kit i 0 le (by decide), hdic, hd, _, rfl, _, _, _, _, _, rfl, only_ref, R.kit i 1 le (by decide), hdic, hd, _, rfl, _, _, _, _, _, rfl, only_ref, R.kit i 2 le (by decide), hdic, hd, _, rfl, _, _, _, _, _, rfl, only_ref, R.kit i 3 le (by decide), hdic, hd, (by show 4 ≤ sizeLine; decide), fun r1 n1 => ?_⟩
    have s1 : Same H (upd H r1 (.lst [V.bl (decide (i = 0)), V.bl (decide (i = 1)), V.bl (decide (i = 2)), V.bl (decide (i = 3))])) := Same.upd n1
    have e1 : (upd H r1 (.lst [V.bl (decide (i = 0)), V.bl (decide (i = 1)), V.bl (decide (i = 2)), V.bl (decide (i = 3))])) r1 = some (.lst [V.bl (decide (i = 0)), V.bl (decide (i = 1)), V.bl (decide (i = 2)), V.bl (decide (i = 3))]) := upd_same
    generalize upd H r1 (.lst [V.bl (decide (i = 0)), V.bl (decide (i = 1)), V.bl (decide (i = 2)), V.bl (decide (i = 3))]) = H1 at s1 e1 ⊢
    have d1 := s1 _ _ hd
    refine ⟨_, rfl, _, _, _, _, _, rfl, only_ref, R.kit i 4 le (by decide), hdic, d1, _, rfl, _, _, _, _, _, rfl, only_ref, R.kit i 5 le (by decide), hdic, d1, _, rfl, _, _, _, _, _, rfl, only_ref, R.kit i 6 le (by decide), hdic, d1, _, rfl, _, _, _, _, _, rfl, only_ref, R.kit i 7 le (by decide), hdic, d1, (by show 4 ≤ sizeLine; decide), fun r2 n2 => ?_⟩
    have s2 : Same H1 (upd H1 r2 (.lst [V.bl (decide (i = 4)), V.bl (decide (i = 5)), V.bl (decide (i = 6)), V.bl (decide (i = 7))])) := Same.upd n2
    have e2 : (upd H1 r2 (.lst [V.bl (decide (i = 4)), V.bl (decide (i = 5)), V.bl (decide (i = 6)), V.bl (decide (i = 7))])) r2 = some (.lst [V.bl (decide (i = 4)), V.bl (decide (i = 5)), V.bl (decide (i = 6)), V.bl (decide (i = 7))]) := upd_same
    generalize upd H1 r2 (.lst [V.bl (decide (i = 4)), V.bl (decide (i = 5)), V.bl (decide (i = 6)), V.bl (decide (i = 7))]) = H2 at s2 e2 ⊢
    have d2 := s2 _ _ d1
    have e1' := s2 _ _ e1
    refine ⟨_, rfl, _, _, _, _, _, rfl, only_ref, R.kit i 8 le (by decide), hdic, d2, _, rfl, _, _, _, _, _, rfl, only_ref, R.kit i 9 le (by decide), hdic, d2, _, rfl, _, _, _, _, _, rfl, only_ty, R.kitV i le, hdic, d2, _, rfl, _, _, _, _, _, rfl, only_ref, R.kitW i le, hdic, d2, (by show 4 ≤ sizeLine; decide), fun r3 n3 => ?_⟩
    have s3 : Same H2 (upd H2 r3 (.lst [V.bl (decide (i = 8)), V.bl (decide (i = 9)), V.bl true, V.bl true])) := Same.upd n3
    have e3 : (upd H2 r3 (.lst [V.bl (decide (i = 8)), V.bl (decide (i = 9)), V.bl true, V.bl true])) r3 = some (.lst [V.bl (decide (i = 8)), V.bl (decide (i = 9)), V.bl true, V.bl true]) := upd_same
    generalize upd H2 r3 (.lst [V.bl (decide (i = 8)), V.bl (decide (i = 9)), V.bl true, V.bl true]) = H3 at s3 e3 ⊢
    have e2' := s3 _ _ e2
    have e1' := s3 _ _ e1'
    refine ⟨_, rfl, _, rfl, r1, r2, _, _, rfl, rfl, e1', e2', (by show 8 ≤ sizeLine; decide), fun p np => ?_⟩
    have s4 := Same.upd (o := .lst ([V.bl (decide (i = 0)), V.bl (decide (i = 1)), V.bl (decide (i = 2)), V.bl (decide (i = 3))] ++ [V.bl (decide (i = 4)), V.bl (decide (i = 5)), V.bl (decide (i = 6)), V.bl (decide (i = 7))])) np
    refine ⟨_, rfl, p, r3, _, _, rfl, rfl, upd_same, s4 _ _ e3, (by show 12 ≤ sizeLine; decide), fun q nq => ?_⟩
    have s5 := ((s1.trans s2).trans (s3.trans s4)).trans (Same.upd (o := .lst (([V.bl (decide (i = 0)), V.bl (decide (i = 1)), V.bl (decide (i = 2)), V.bl (decide (i = 3))] ++ [V.bl (decide (i = 4)), V.bl (decide (i = 5)), V.bl (decide (i = 6)), V.bl (decide (i = 7))]) ++ [V.bl (decide (i = 8)), V.bl (decide (i = 9)), V.bl true, V.bl true])) nq)
    refine k q _ s5 (((s1.trans s2).trans (s3.trans s4)).free nq) ?_
    rw [upd_same]
    rfl
end
end RX

set_option Elab.async false
set_option maxRecDepth 100000
namespace RX
open PySem L2 L2H XH
abbrev sRefused : Stmt := topS 26
theorem nothing_out {X : Cx} : L2N.Takes X (fun _ _ _ _ => False) := fun _ _ ⟨_, _, _, _, _, _, _, _, _, _, _, _, _, _, _, _, z⟩ => z.elim
theorem pass_at0 {X : Cx} {E : XK} : ∀ σ : L2.St, PassesAt CX0 X σ E := fun _ _ _ _ _ _ _ h => h.elim
theorem dpMarks {K : PySem.W.Frag} {H : Hp} {r : Addr} {i : Nat} (h : H r = some (.lst (marksV i))) : Dp K H (.ref r) (.list (marksD i)) :=
  .lst (SqL.of h) (.cons (.bl _) (.cons (.bl _) (.cons (.bl _) (.cons (.bl _) (.cons (.bl _) (.cons (.bl _) (.cons (.bl _) (.cons (.bl _) (.cons (.bl _) (.cons (.bl _) (.cons (.bl _) (.cons (.bl _) .nil))))))))))))
theorem eqMarks : ∀ i, i < 11 → PyData.eqv (.list (marksD i)) (.list (marksD i)) = true := by decide +kernel
theorem unitsM {k : Nat} {A : Around} (r : Room k A) (h : Option Value) : (A.mark h).units + 64 < cLine := by
  have := r.un
  show A.units + 64 < cLine
  omega
/-- within a suite: the marks of the error, compared with those of D i -/
def tMrk (a : Addr) (cls : Value) (d : Option Addr) (D : Nat → Addr) (ta : TE) (td : TE) : TE := fun σ H Q => ta σ H fun x H1 => x = .ref a ∧ ∃ (i : Nat) (dd : Addr) (fs : List (Str × V)), i ≤ 10 ∧ cls = .ref (D i) ∧ d = some dd ∧ H1 dd = some (.xd fs) ∧
  ∀ H2, Same H1 H2 → td σ H2 fun y H3 => y = .int (i : Int) ∧ Same H2 H3 ∧ ∀ H', Same H3 H' → Q (.bl true) H'
def MonoE (t : TE) : Prop := ∀ σ H (Q Q' : VK), (∀ v h, Q v h → Q' v h) → t σ H Q → t σ H Q'
theorem mono_var (i : Nat) : MonoE (tVar i) := fun _ _ _ _ im ⟨v, e, q⟩ => ⟨v, e, im _ _ q⟩
theorem mono_c (v : V) : MonoE (tC v) := fun _ _ _ _ im q => im _ _ q
theorem pe_imp {X : Cx} {e : Expr} {t t' : TE} (im : ∀ σ H Q, t' σ H Q → t σ H Q) (h : PE X e t) : PE X e t' := ⟨fun pins s σ H Q I told => h.run pins s σ H Q I (im _ _ _ told)⟩
abbrev E00 : L2.St → XK := fun _ _ _ _ => False
section
variable {K : PySem.W.Frag} {D : Nat → Addr} {a : Addr} {oe : Obj} {cls : Value} {d : Option Addr} {ta td : TE}
theorem mrk_told (ma : MonoE ta) (md : MonoE td) (hz : L2N.Zn cls d oe) (hf : ∃ vs, oe.data = .fields vs) : ∀ σ H Q, tMrk a cls d D ta td σ H Q → tOp (rEqD K) (tCallS (spMarks D (a, oe)) E00 (tCons ta tNil)) (tCallS (spDue (a, oe)) E00 (tCons td tNil)) σ H Q := by
  intro σ H Q told
  refine ma σ H _ _ (fun x H1 told => ?_) told
  obtain ⟨rfl, i, dd, fs, le, rfl, rfl, at_d, told⟩ := told
  refine ⟨i, dd, fs, rfl, ⟨le, hz.1, hf, hz.2.1⟩, at_d, fun r H2 s2 nr hr => ?_⟩
  refine md σ H2 _ _ (fun y H3 told => ?_) (told H2 s2)
  obtain ⟨rfl, s3, told⟩ := told
  refine ⟨i, rfl, fun r' H4 s4 nr' hr' => ?_⟩
  refine ⟨_, _, dpMarks (s4 _ _ (s3 _ _ hr)), dpMarks hr', rfl, rfl, ?_⟩
  rw [eqMarks i (Nat.lt_succ_of_le le)]
  exact told H4 s4
theorem hot_of {A : Around} (hz : L2N.Zn cls d oe) (hf : ∃ vs, oe.data = .fields vs) : Hot1 (A.mark (some (.ref a))) (a, oe) := by
  obtain ⟨vs, ed⟩ := hf
  exact ⟨rfl, vs, ed, hz.2.2 vs ed⟩
end
/-- the two defs that a suite asks -/
structure CalP (P : Program) (w : World) (K : PySem.W.Frag) (mg : Str → Option Value) (base : Heap) (x : Str) (k : Nat) (ps : List Str) (sp : SpP) (f : Addr) (fd : FuncData) : Prop where
  G : FnP P w K mg base CX0 k f fd ps sp
  m : mg x = some (.ref f)
  kp : PySem.W.keepIn K (.ref f) = true
  b : Binds K fd ps []
def spRefused : Sp := fun vs H Q _ => ∃ t : Int, vs = [.int t] ∧ ∀ H' : Hp, Same H H' → Q (.bl true) H'
section
variable {P : Program} {w : World} {K : PySem.W.Frag} {mg : Str → Option Value} {base : Heap}
theorem scRf : FnScope ["above", "e"] ["above"] (defScope sRefused) := ⟨rfl, rfl, rfl, by decide +kernel, rfl, by decide +kernel, by decide +kernel⟩
theorem ok_refused {f fI fW fM fU C : Addr} {fd dI dM dU : FuncData} {D : Nat → Addr} (F : Fun K "_law_refused" "_law_refused" sRefused f fd) (T : TxtR K mg C) (R : Errs K mg fW D) (M : Mk K C fI) (GI : FnOk P w K mg base (L2N.CX P w) 3 fI dI ["self", "top", "bottom"] (spInitX C (D 0))) (bI : Binds K dI ["self", "top", "bottom"] [])
    (cM : CalP P w K mg base "_law_marks" 1 ["e"] (spMarks D) fM dM) (cU : CalP P w K mg base "_law_due_marks" 1 ["k"] spDue fU dU) : FnOk P w K mg base CX0 5 f fd ["above"] spRefused := by
  refine F.ok scRf (fun vs H Q E h => ?_) (fun cdv A outer s H vs Q E hr h => ?_)
  · obtain ⟨t, rfl, _⟩ := h
    rfl
  · have hr1 : Room 1 _ := hr.mono (by decide)
    refine ⟨_, pss_cons (L2N.ps_try_as (i := 1) (tb := fun W => tDrop (XR.tMakeS C (spInitX C (D 0)) [] (WE W) (tCons (tVar 0) (tCons (tC (.int 0)) tNil))))
        (ts := fun a cls d => tRet (tAndV (tOp rIsN (tXf a cls d (D 0) "what" (tVar 1)) (tC .non)) (tMrk a cls d D (tVar 1) (tC (.int 0))))) (Wout := fun _ _ _ _ => False) rfl rfl scRf.nd rfl rfl ⟨rfl, by decide, Or.inl R.m10⟩ nothing_out
        (fun W pn xe tk _ => pss_one (ps_expr (by exact (XR.pe_makeS (E := WE W) M GI hr (by rfl) T.mgC bI .nil (fun σ => L2N.passAt tk σ) (pa_cons (pv 0) (pa_cons pe_int pa_nil))))))
        (fun a oe cls d pn hz hf => pss_one (ps_ret (pe_and (pe_cmpR op_isN1 (pe_xf (R.xf 0 (by decide)) (R.no 0 (by decide)) hz.zc hf (pv 1)) pe_non (nomark _)) (pe_one (pe_imp (mrk_told (mono_var 1) (mono_c _) hz hf)
          (pe_cmpR (op_eqD (unitsM hr _)) (pe_callP cM.G (roomH_mark hr1 _) (hot_of hz hf) List.mem_cons_self (by rfl) cM.m cM.kp cM.b pass_at0 (pa_cons (pv 1) pa_nil)) (pe_callP cU.G (roomH_mark hr1 _) (hot_of hz hf) List.mem_cons_self (by rfl) cU.m cU.kp cU.b pass_at0 (pa_cons pe_int pa_nil)) (nomark _))))))))
      (pss_one (ps_ret pe_bl)), ?_⟩
    obtain ⟨t, rfl, k⟩ := h
    refine ⟨_, rfl, fun x dx nx nd ne => .inr ⟨x, dx, t, rfl, upd_same, fun dd H' fl => ?_⟩⟩
    have s0 : Same H H' := (Same.made nx nd fun _ _ h _ => h).trans fl.s
    refine ⟨true, R.exm 0 (by decide), fun _ a na => ?_, fun q => Bool.noConfusion q⟩
    refine ⟨_, rfl, rfl, rfl, dd, _, .non, rfl, fl.x, rfl, rfl, true, rfl, iteT ?_⟩
    exact ⟨_, rfl, rfl, 0, dd, _, by decide, rfl, rfl, fl.x, fun H2 s2 => ⟨rfl, Same.refl _, fun H3 s3 => k H3 (s0.trans (s2.trans s3))⟩⟩
end
end RX

set_option Elab.async false
set_option maxRecDepth 100000
namespace RX
open PySem L2 L2H XH
abbrev sQuot : Stmt := topS 27
theorem quot_eq {n d m e : Int} (hd : d ≠ 0) (he : e ≠ 0) (hm : m ≠ 0) : RT.top (RT.top n d * RT.bot m e) (RT.bot n d * RT.top m e) = RT.top (n * e) (d * m) ∧ RT.bot (RT.top n d * RT.bot m e) (RT.bot n d * RT.top m e) = RT.bot (n * e) (d * m) := by
  have c1 := RT.cross (t := n) hd
  have c2 := RT.cross (t := m) he
  have tm : RT.top m e ≠ 0 := fun z => by
    have := RT.top_mul (t := m) he
    rw [z, Int.zero_mul] at this
    exact hm this.symm
  have b1 := RT.bot_pos (t := n) hd
  refine RT.same (Int.mul_ne_zero (by omega) tm) (Int.mul_ne_zero hd hm) ?_
  calc RT.top n d * RT.bot m e * (d * m) = (RT.top n d * d) * (m * RT.bot m e) := by ac_rfl
    _ = (n * RT.bot n d) * (RT.top m e * e) := by rw [c1, c2]
    _ = n * e * (RT.bot n d * RT.top m e) := by ac_rfl
theorem top_zero {m e : Int} (he : e ≠ 0) (h : m = 0) : RT.top m e = 0 := by
  have := RT.top_mul (t := m) he
  rw [h] at this ⊢
  rcases Int.mul_eq_zero.mp this with z | z
  · exact z
  · exact absurd z (RT.byv_ne he)
theorem top_not {m e : Int} (he : e ≠ 0) (h : m ≠ 0) : RT.top m e ≠ 0 := fun z => by
  have := RT.top_mul (t := m) he
  rw [z, Int.zero_mul] at this
  exact h this.symm
theorem Ti.sm {x : Int} (h : Ti x) : Sm x := pw (by decide) h
theorem Ti.md {x : Int} (h : Ti x) : Md x := pw (by decide) h
def spQuot : Sp := fun vs H Q _ => ∃ (p q : Addr) (n d m e : Int), vs = [.ref p, .ref q] ∧ PairAt H p n d ∧ PairAt H q m e ∧ d ≠ 0 ∧ e ≠ 0 ∧ Ti n ∧ Ti d ∧ Ti m ∧ Ti e ∧ ∀ H' : Hp, Same H H' → Q (.bl true) H'
section
variable {P : Program} {w : World} {K : PySem.W.Frag} {mg : Str → Option Value} {base : Heap}
theorem scQu : FnScope ["one", "two", "made", "other", "found", "e"] ["one", "two"] (defScope sQuot) := ⟨rfl, rfl, rfl, by decide +kernel, rfl, by decide +kernel, by decide +kernel⟩
theorem ok_quot {f fI fW fM fU fO fP fS C : Addr} {fd dI dM dU dO dP dS : FuncData} {D : Nat → Addr} (F : Fun K "_law_quotient" "_law_quotient" sQuot f fd) (T : TxtR K mg C) (R : Errs K mg fW D) (M : Mk K C fI) (GI : FnOk P w K mg base CX0 1 fI dI ["self", "top", "bottom"] (spInit C)) (bI : Binds K dI ["self", "top", "bottom"] [])
    (mO : Meth K C "over" fO) (GO : FnOk P w K mg base (L2N.CX P w) 5 fO dO ["self", "other"] (spOverX C (D 0))) (bO : Binds K dO ["self", "other"] []) (cP : CalN P w K mg base "_law_pair" 1 ["above", "below"] spPair fP dP) (cS : CalN P w K mg base "_law_same" 2 ["actual", "due"] (spSame C) fS dS)
    (cM : CalP P w K mg base "_law_marks" 1 ["e"] (spMarks D) fM dM) (cU : CalP P w K mg base "_law_due_marks" 1 ["k"] spDue fU dU) : FnOk P w K mg base CX0 6 f fd ["one", "two"] spQuot := by
  refine F.ok scQu (fun vs H Q E h => ?_) (fun cdv A outer s H vs Q E hr h => ?_)
  · obtain ⟨p, q, n, d, m, e, rfl, _⟩ := h
    rfl
  · have hr1 : Room 1 _ := hr.mono (by decide)
    have hr2 : Room 2 _ := hr.mono (by decide)
    refine ⟨_, pss_cons (ps_set (i := 2) scQu.nd rfl (.inl rfl) (pe_make M GI hr2 rfl T.mgC bI .nil pass0 (pa_cons (pe_ix ix_tup (pv 0) pe_int (fun _ _ => rfl)) (pa_cons (pe_ix ix_tup (pv 0) pe_int (fun _ _ => rfl)) pa_nil))))
      (pss_cons (ps_set (i := 3) scQu.nd rfl (.inl rfl) (pe_make M GI hr2 rfl T.mgC bI .nil pass0 (pa_cons (pe_ix ix_tup (pv 1) pe_int (fun _ _ => rfl)) (pa_cons (pe_ix ix_tup (pv 1) pe_int (fun _ _ => rfl)) pa_nil))))
      (pss_cons (ps_set (i := 4) scQu.nd rfl (.inl rfl) pe_non)
      (pss_cons (L2N.ps_try_as (i := 5) (tb := fun W => tAsg (XR.tMethS C "over" (spOverX C (D 0)) [] (WE W) (tVar 2) (tCons (tVar 3) tNil)) (gName 4)) (ts := fun a cls d => tRet (tAndV (tOp rEq (tOp (rIxT K) (tVar 1) (tC (.int 0))) (tC (.int 0))) (tAndV (tOp rIsN (tXf a cls d (D 0) "what" (tVar 5)) (tC .non)) (tMrk a cls d D (tVar 5) (tC (.int 0)))))) (Wout := fun _ _ _ _ => False) rfl rfl scQu.nd rfl rfl ⟨rfl, by decide, Or.inl R.m10⟩ nothing_out
        (fun W pn xe tk _ => pss_one (ps_set (i := 4) scQu.nd rfl (.inl rfl) (by exact (XR.pe_methS (E := WE W) (pv 2) T.cl mO GO hr bO .nil (fun σ => L2N.passAt tk σ) (pa_cons (pv 3) pa_nil)))))
        (fun a oe cls d pn hz hf => pss_one (ps_ret (pe_and (pe_cmpR op_eq (pe_ix ix_tup (pv 1) pe_int (fun _ _ => rfl)) pe_int (nomark _)) (pe_and (pe_cmpR op_isN1 (pe_xf (R.xf 0 (by decide)) (R.no 0 (by decide)) hz.zc hf (pv 5)) pe_non (nomark _)) (pe_one (pe_imp (mrk_told (mono_var 5) (mono_c _) hz hf)
          (pe_cmpR (op_eqD (unitsM hr _)) (pe_callP cM.G (roomH_mark hr1 _) (hot_of hz hf) List.mem_cons_self (by rfl) cM.m cM.kp cM.b pass_at0 (pa_cons (pv 5) pa_nil)) (pe_callP cU.G (roomH_mark hr1 _) (hot_of hz hf) List.mem_cons_self (by rfl) cU.m cU.kp cU.b pass_at0 (pa_cons pe_int pa_nil)) (nomark _)))))))))
      (pss_cons (ps_if (pt_cmpR op_eq (pe_ix ix_tup (pv 1) pe_int (fun _ _ => rfl)) pe_int (nomark _)) (pss_one ps_never) pss_nil)
      (pss_one (ps_ret (pe_and (pe_call cS.G hr2 rfl cS.m cS.kp cS.b .nil pass0 (pa_cons (pv 4) (pa_cons (pe_call cP.G hr1 rfl cP.m cP.kp cP.b .nil pass0 (pa_cons (pe_op op_mulW (pe_ix ix_tup (pv 0) pe_int (fun _ _ => rfl)) (pe_ix ix_tup (pv 1) pe_int (fun _ _ => rfl))) (pa_cons (pe_op op_mulW (pe_ix ix_tup (pv 0) pe_int (fun _ _ => rfl)) (pe_ix ix_tup (pv 1) pe_int (fun _ _ => rfl))) pa_nil))) pa_nil)))
        (pe_one (pe_call cS.G hr2 rfl cS.m cS.kp cS.b .nil pass0 (pa_cons (pv 2) (pa_cons (pe_call cP.G hr1 rfl cP.m cP.kp cP.b .nil pass0 (pa_cons (pe_ix ix_tup (pv 0) pe_int (fun _ _ => rfl)) (pa_cons (pe_ix ix_tup (pv 0) pe_int (fun _ _ => rfl)) pa_nil))) pa_nil))))))))))), ?_⟩
    obtain ⟨p, q, n, d, m, e, rfl, hp, hq, hd, he, tn, td, tm, te, k⟩ := h
    refine ⟨_, rfl, p, _, 0, _, rfl, rfl, hp.t, rfl, _, rfl, p, _, 1, _, rfl, rfl, hp.t, rfl, ?_⟩
    refine fun r1 dx1 nr1 nd1 ne1 => ⟨r1, dx1, n, d, rfl, upd_same, hd, td.md, fun H1 ra1 kp1 => ⟨rfl, ?_⟩⟩
    have s1 := Same.made nr1 nd1 kp1
    have hq1 := hq.same s1
    refine ⟨_, rfl, q, _, 0, _, rfl, rfl, hq1.t, rfl, _, rfl, q, _, 1, _, rfl, rfl, hq1.t, rfl, ?_⟩
    refine fun r2 dx2 nr2 nd2 ne2 => ⟨r2, dx2, m, e, rfl, upd_same, he, te.md, fun H2 ra2 kp2 => ⟨rfl, ?_⟩⟩
    have s2 := Same.made nr2 nd2 kp2
    have hp2 := hp.same (s1.trans s2)
    have hq2 := hq1.same s2
    have ra12 := ra1.same s2
    obtain ⟨dx, ex⟩ := ra12
    refine ⟨_, rfl, r1, dx, _, rfl, ex, rf_no _ _ (by decide +kernel) (by decide +kernel), _, rfl, ?_⟩
    have bn : ∀ {x y : Int}, y ≠ 0 → RT.bot x y ≠ 0 := fun {x y} h => by have := RT.bot_pos (t := x) h; omega
    refine ⟨r1, r2, _, _, _, _, rfl, ⟨dx, ex⟩, ra2, bn hd, Ti.sm (topB hd tn), Ti.sm (botB hd td), Ti.sm (topB he tm), Ti.sm (botB he te), ?_⟩
    by_cases m0 : m = 0
    · refine .inr ⟨top_zero he m0, fun dd H' fl => ?_⟩
      obtain ⟨H3, s3, fl⟩ := fl
      have s03 : Same H H' := ((s1.trans s2).trans s3).trans fl.s
      subst m0
      refine ⟨true, R.exm 0 (by decide), fun _ a na => ?_, fun q => Bool.noConfusion q⟩
      refine ⟨_, rfl, q, _, 0, _, rfl, rfl, (hq.same s03).t, rfl, rfl, true, (by rw [decide_eq_true rfl]), iteT ?_⟩
      refine ⟨_, rfl, rfl, rfl, dd, _, .non, rfl, fl.x, rfl, rfl, true, rfl, iteT ?_⟩
      exact ⟨_, rfl, rfl, 0, dd, _, by decide, rfl, rfl, fl.x, fun H4 s4 => ⟨rfl, Same.refl _, fun H5 s5 => k H5 (s03.trans (s4.trans s5))⟩⟩
    · refine .inl ⟨top_not he m0, fun r3 H3 s3 nr3 ra3 => ?_⟩
      have hp3 := hp2.same s3
      have hq3 := hq2.same s3
      have mne : decide (V.int m = V.int 0) = false := decide_eq_false fun z => m0 (by injection z)
      refine ⟨_, rfl, q, _, 0, _, rfl, rfl, hq3.t, rfl, rfl, _, rfl, ?_⟩
      refine ite2 (fun z => ?_) (fun _ => ?_)
      · rw [mne] at z
        cases z
      obtain ⟨e1, e2⟩ := quot_eq (n := n) hd he m0
      rw [e1, e2] at ra3
      refine ⟨_, rfl, _, rfl, p, _, 0, _, rfl, rfl, hp3.t, rfl, _, rfl, q, _, 1, _, rfl, rfl, hq3.t, rfl, _, _, rfl, rfl, Sm.w tn.sm te.sm, ?_⟩
      refine ⟨_, rfl, p, _, 1, _, rfl, rfl, hp3.t, rfl, _, rfl, q, _, 0, _, rfl, rfl, hq3.t, rfl, _, _, rfl, rfl, Sm.w td.sm tm.sm, ?_⟩
      refine ⟨_, _, rfl, Int.mul_ne_zero hd m0, Sm.md td.sm tm.sm, fun r4 H4 s4 nr4 pr4 => ?_⟩
      refine ⟨r3, r4, _, _, rfl, ra3.same s4, pr4, true, rfl, iteT ?_⟩
      have hp4 := hp3.same s4
      refine ⟨_, rfl, _, rfl, p, _, 0, _, rfl, rfl, hp4.t, rfl, _, rfl, p, _, 1, _, rfl, rfl, hp4.t, rfl, ?_⟩
      refine ⟨_, _, rfl, hd, td.md, fun r5 H5 s5 nr5 pr5 => ?_⟩
      exact ⟨r1, r5, _, _, rfl, ((ra1.same s2).same s3).same (s4.trans s5), pr5, k H5 ((s1.trans s2).trans ((s3.trans s4).trans s5))⟩
end
end RX

set_option Elab.async false
set_option maxRecDepth 100000
namespace RX
open PySem L2 L2H XH
abbrev sRaise : Stmt := topS 28
abbrev sErr : Stmt := topS 29
abbrev sEmpty : Stmt := topS 30
abbrev sByName : Stmt := topS 31
def spRaise (D : Nat → Addr) : Sp := fun vs H _ E => ∃ (i : Nat) (v : V), i ≤ 10 ∧ vs = [.int (i : Int), v] ∧ ∀ dd H', Flies H v dd H' → E (.ref (D i)) (some dd) H'
def spErr : Sp := fun vs H Q _ => ∃ (i : Nat) (v : V), i ≤ 10 ∧ vs = [.int (i : Int), v] ∧ scal v v = true ∧ ∀ H' : Hp, Same H H' → Q (.bl true) H'
def spEmpty : Sp := fun vs H Q _ => vs = [] ∧ ∀ H' : Hp, Same H H' → Q (.bl true) H'
def spByName : Sp := fun vs H Q _ => ∃ v : V, vs = [v] ∧ scal v v = true ∧ ∀ H' : Hp, Same H H' → Q (.bl true) H'
theorem flies_of {H : Hp} {a C dx : Addr} {v : V} (na : H a = none) (ndx : (upd H a (exo a C none)) dx = none) (ne : dx ≠ a) : Flies H v dx (upd (del (upd (upd (upd H a (exo a C none)) dx (exd dx [("what", v)])) a (exo a C (some dx))) a) dx (.xd [("what", v)])) := by
  rw [upd_ne ne] at ndx
  refine ⟨fun b o e => ?_, ndx, upd_same⟩
  have b1 : b ≠ a := ne_of_none e na
  have b2 : b ≠ dx := ne_of_none e ndx
  rw [upd_ne b2, del_ne b1, upd_ne b1, upd_ne b2, upd_ne b1]
  exact e
section
variable {P : Program} {w : World} {K : PySem.W.Frag} {mg : Str → Option Value} {base : Heap}
theorem scRs : FnScope ["k", "thing"] ["k", "thing"] (defScope sRaise) := ⟨rfl, rfl, rfl, by decide +kernel, rfl, by decide +kernel, by decide +kernel⟩
theorem ok_raise {f fW : Addr} {fd dW : FuncData} {D : Nat → Addr} (F : Fun K "_law_raise_one" "_law_raise_one" sRaise f fd) (R : Errs K mg fW D) (GW : FnOk P w K mg base CX0 1 fW dW ["self", "what"] (spW K)) (bW : Binds K dW ["self", "what"] []) :
    FnOk P w K mg base (L2N.CX P w) 3 f fd ["k", "thing"] (spRaise D) := by
  refine XR.ok_out F scRs (fun vs H Q E h => ?_) (fun cdv A outer s H vs Q E hr h => ?_)
  · obtain ⟨i, v, _, rfl, _⟩ := h
    rfl
  · refine ⟨_, pss_cons (ps_if (pt_cmpR op_eq (pv 0) pe_int (nomark _)) (pss_one (L2N.ps_raise rfl (L2N.takes_of rfl rfl rfl rfl) (XR.pmk_err (R.oex 0 (by decide)) (R.ini 0 (by decide)) R.fn GW hr bW .nil pass0 (by rfl) R.m0 (pa_cons (pv 1) pa_nil)))) pss_nil)
      (pss_cons (ps_if (pt_cmpR op_eq (pv 0) pe_int (nomark _)) (pss_one (L2N.ps_raise rfl (L2N.takes_of rfl rfl rfl rfl) (XR.pmk_err (R.oex 1 (by decide)) (R.ini 1 (by decide)) R.fn GW hr bW .nil pass0 (by rfl) R.m1 (pa_cons (pv 1) pa_nil)))) pss_nil)
      (pss_cons (ps_if (pt_cmpR op_eq (pv 0) pe_int (nomark _)) (pss_one (L2N.ps_raise rfl (L2N.takes_of rfl rfl rfl rfl) (XR.pmk_err (R.oex 2 (by decide)) (R.ini 2 (by decide)) R.fn GW hr bW .nil pass0 (by rfl) R.m2 (pa_cons (pv 1) pa_nil)))) pss_nil)
      (pss_cons (ps_if (pt_cmpR op_eq (pv 0) pe_int (nomark _)) (pss_one (L2N.ps_raise rfl (L2N.takes_of rfl rfl rfl rfl) (XR.pmk_err (R.oex 3 (by decide)) (R.ini 3 (by decide)) R.fn GW hr bW .nil pass0 (by rfl) R.m3 (pa_cons (pv 1) pa_nil)))) pss_nil)
      (pss_cons (ps_if (pt_cmpR op_eq (pv 0) pe_int (nomark _)) (pss_one (L2N.ps_raise rfl (L2N.takes_of rfl rfl rfl rfl) (XR.pmk_err (R.oex 4 (by decide)) (R.ini 4 (by decide)) R.fn GW hr bW .nil pass0 (by rfl) R.m4 (pa_cons (pv 1) pa_nil)))) pss_nil)
      (pss_cons (ps_if (pt_cmpR op_eq (pv 0) pe_int (nomark _)) (pss_one (L2N.ps_raise rfl (L2N.takes_of rfl rfl rfl rfl) (XR.pmk_err (R.oex 5 (by decide)) (R.ini 5 (by decide)) R.fn GW hr bW .nil pass0 (by rfl) R.m5 (pa_cons (pv 1) pa_nil)))) pss_nil)
      (pss_cons (ps_if (pt_cmpR op_eq (pv 0) pe_int (nomark _)) (pss_one (L2N.ps_raise rfl (L2N.takes_of rfl rfl rfl rfl) (XR.pmk_err (R.oex 6 (by decide)) (R.ini 6 (by decide)) R.fn GW hr bW .nil pass0 (by rfl) R.m6 (pa_cons (pv 1) pa_nil)))) pss_nil)
      (pss_cons (ps_if (pt_cmpR op_eq (pv 0) pe_int (nomark _)) (pss_one (L2N.ps_raise rfl (L2N.takes_of rfl rfl rfl rfl) (XR.pmk_err (R.oex 7 (by decide)) (R.ini 7 (by decide)) R.fn GW hr bW .nil pass0 (by rfl) R.m7 (pa_cons (pv 1) pa_nil)))) pss_nil)
      (pss_cons (ps_if (pt_cmpR op_eq (pv 0) pe_int (nomark _)) (pss_one (L2N.ps_raise rfl (L2N.takes_of rfl rfl rfl rfl) (XR.pmk_err (R.oex 8 (by decide)) (R.ini 8 (by decide)) R.fn GW hr bW .nil pass0 (by rfl) R.m8 (pa_cons (pv 1) pa_nil)))) pss_nil)
      (pss_cons (ps_if (pt_cmpR op_eq (pv 0) pe_int (nomark _)) (pss_one (L2N.ps_raise rfl (L2N.takes_of rfl rfl rfl rfl) (XR.pmk_err (R.oex 9 (by decide)) (R.ini 9 (by decide)) R.fn GW hr bW .nil pass0 (by rfl) R.m9 (pa_cons (pv 1) pa_nil)))) pss_nil)
      (pss_one (L2N.ps_raise rfl (L2N.takes_of rfl rfl rfl rfl) (XR.pmk_err (R.oex 10 (by decide)) (R.ini 10 (by decide)) R.fn GW hr bW .nil pass0 (by rfl) R.m10 (pa_cons (pv 1) pa_nil))))))))))))), ?_⟩
    obtain ⟨i, v, le, rfl, k⟩ := h
    refine ⟨_, rfl, rfl, _, rfl, ite2 (fun z => ?_) (fun z => ?_)⟩
    · obtain rfl : i = 0 := by
        have z := of_decide_eq_true z
        injection z with z
        omega
      exact ⟨_, rfl, (by show 1 ≤ 1000; decide), raise_in (R.oex _ le) (R.no _ le) k⟩
    have n0 : i ≠ 0 := fun e => z (decide_eq_true (by rw [e]; rfl))
    refine ⟨_, rfl, rfl, _, rfl, ite2 (fun z => ?_) (fun z => ?_)⟩
    · obtain rfl : i = 1 := by
        have z := of_decide_eq_true z
        injection z with z
        omega
      exact ⟨_, rfl, (by show 1 ≤ 1000; decide), raise_in (R.oex _ le) (R.no _ le) k⟩
    have n1 : i ≠ 1 := fun e => z (decide_eq_true (by rw [e]; rfl))
    refine ⟨_, rfl, rfl, _, rfl, ite2 (fun z => ?_) (fun z => ?_)⟩
    · obtain rfl : i = 2 := by
        have z := of_decide_eq_true z
        injection z with z
        omega
      exact ⟨_, rfl, (by show 1 ≤ 1000; decide), raise_in (R.oex _ le) (R.no _ le) k⟩
    have n2 : i ≠ 2 := fun e => z (decide_eq_true (by rw [e]; rfl))
    refine ⟨_, rfl, rfl, _, rfl, ite2 (fun z => ?_) (fun z => ?_)⟩
    · obtain rfl : i = 3 := by
        have z := of_decide_eq_true z
        injection z with z
        omega
      exact ⟨_, rfl, (by show 1 ≤ 1000; decide), raise_in (R.oex _ le) (R.no _ le) k⟩
    have n3 : i ≠ 3 := fun e => z (decide_eq_true (by rw [e]; rfl))
    refine ⟨_, rfl, rfl, _, rfl, ite2 (fun z => ?_) (fun z => ?_)⟩
    · obtain rfl : i = 4 := by
        have z := of_decide_eq_true z
        injection z with z
        omega
      exact ⟨_, rfl, (by show 1 ≤ 1000; decide), raise_in (R.oex _ le) (R.no _ le) k⟩
    have n4 : i ≠ 4 := fun e => z (decide_eq_true (by rw [e]; rfl))
    refine ⟨_, rfl, rfl, _, rfl, ite2 (fun z => ?_) (fun z => ?_)⟩
    · obtain rfl : i = 5 := by
        have z := of_decide_eq_true z
        injection z with z
        omega
      exact ⟨_, rfl, (by show 1 ≤ 1000; decide), raise_in (R.oex _ le) (R.no _ le) k⟩
    have n5 : i ≠ 5 := fun e => z (decide_eq_true (by rw [e]; rfl))
    refine ⟨_, rfl, rfl, _, rfl, ite2 (fun z => ?_) (fun z => ?_)⟩
    · obtain rfl : i = 6 := by
        have z := of_decide_eq_true z
        injection z with z
        omega
      exact ⟨_, rfl, (by show 1 ≤ 1000; decide), raise_in (R.oex _ le) (R.no _ le) k⟩
    have n6 : i ≠ 6 := fun e => z (decide_eq_true (by rw [e]; rfl))
    refine ⟨_, rfl, rfl, _, rfl, ite2 (fun z => ?_) (fun z => ?_)⟩
    · obtain rfl : i = 7 := by
        have z := of_decide_eq_true z
        injection z with z
        omega
      exact ⟨_, rfl, (by show 1 ≤ 1000; decide), raise_in (R.oex _ le) (R.no _ le) k⟩
    have n7 : i ≠ 7 := fun e => z (decide_eq_true (by rw [e]; rfl))
    refine ⟨_, rfl, rfl, _, rfl, ite2 (fun z => ?_) (fun z => ?_)⟩
    · obtain rfl : i = 8 := by
        have z := of_decide_eq_true z
        injection z with z
        omega
      exact ⟨_, rfl, (by show 1 ≤ 1000; decide), raise_in (R.oex _ le) (R.no _ le) k⟩
    have n8 : i ≠ 8 := fun e => z (decide_eq_true (by rw [e]; rfl))
    refine ⟨_, rfl, rfl, _, rfl, ite2 (fun z => ?_) (fun z => ?_)⟩
    · obtain rfl : i = 9 := by
        have z := of_decide_eq_true z
        injection z with z
        omega
      exact ⟨_, rfl, (by show 1 ≤ 1000; decide), raise_in (R.oex _ le) (R.no _ le) k⟩
    have n9 : i ≠ 9 := fun e => z (decide_eq_true (by rw [e]; rfl))
    obtain rfl : i = 10 := by omega
    exact ⟨_, rfl, (by show 1 ≤ 1000; decide), raise_in (R.oex _ le) (R.no _ le) k⟩
end
end RX

set_option Elab.async false
set_option maxRecDepth 100000
namespace RX
open PySem L2 L2H XH
section
variable {P : Program} {w : World} {K : PySem.W.Frag} {mg : Str → Option Value} {base : Heap}
theorem scEr : FnScope ["k", "thing", "e"] ["k", "thing"] (defScope sErr) := ⟨rfl, rfl, rfl, by decide +kernel, rfl, by decide +kernel, by decide +kernel⟩
theorem scEm : FnScope ["one", "two", "thing"] [] (defScope sEmpty) := ⟨rfl, rfl, rfl, by decide +kernel, rfl, by decide +kernel, by decide +kernel⟩
theorem scBn : FnScope ["thing", "e"] ["thing"] (defScope sByName) := ⟨rfl, rfl, rfl, by decide +kernel, rfl, by decide +kernel, by decide +kernel⟩
theorem ok_err {f fW fM fU fR : Addr} {fd dM dU dR : FuncData} {D : Nat → Addr} (F : Fun K "_law_error" "_law_error" sErr f fd) (R : Errs K mg fW D) (mR : mg "_law_raise_one" = some (.ref fR)) (kR : PySem.W.keepIn K (.ref fR) = true) (bR : Binds K dR ["k", "thing"] []) (GR : FnOk P w K mg base (L2N.CX P w) 3 fR dR ["k", "thing"] (spRaise D))
    (cM : CalP P w K mg base "_law_marks" 1 ["e"] (spMarks D) fM dM) (cU : CalP P w K mg base "_law_due_marks" 1 ["k"] spDue fU dU) : FnOk P w K mg base CX0 4 f fd ["k", "thing"] spErr := by
  refine F.ok scEr (fun vs H Q E h => ?_) (fun cdv A outer s H vs Q E hr h => ?_)
  · obtain ⟨i, v, _, rfl, _⟩ := h
    rfl
  · have hr1 : Room 1 _ := hr.mono (by decide)
    obtain ⟨i, v, le, rfl, sc, k⟩ := h
    refine ⟨_, pss_cons (L2N.ps_try_as (i := 2) (tb := fun W => tDrop (tCallS (spRaise D) (WE W) (tCons (tVar 0) (tCons (tVar 1) tNil))))
        (ts := fun a cls d => tRet (tAndV (tOp rEq (tXf a cls d (D i) "what" (tVar 2)) (tVar 1)) (tMrk a cls d D (tVar 2) (tVar 0)))) (Wout := fun _ _ _ _ => False) rfl rfl scEr.nd rfl rfl ⟨rfl, by decide, Or.inl R.m10⟩ nothing_out
        (fun W pn xe tk _ => pss_one (ps_expr (by exact (pe_callS (E := WE W) GR hr (by rfl) mR kR bR (fun σ => L2N.passAt tk σ) (pa_cons (pv 0) (pa_cons (pv 1) pa_nil))))))
        (fun a oe cls d pn hz hf => pss_one (ps_ret (pe_and (pe_cmpR op_eq (pe_xf (R.xf i le) (R.no i le) hz.zc hf (pv 2)) (pv 1) (nomark _)) (pe_one (pe_imp (mrk_told (mono_var 2) (mono_var 0) hz hf)
          (pe_cmpR (op_eqD (unitsM hr _)) (pe_callP cM.G (roomH_mark hr1 _) (hot_of hz hf) List.mem_cons_self (by rfl) cM.m cM.kp cM.b pass_at0 (pa_cons (pv 2) pa_nil)) (pe_callP cU.G (roomH_mark hr1 _) (hot_of hz hf) List.mem_cons_self (by rfl) cU.m cU.kp cU.b pass_at0 (pa_cons (pv 0) pa_nil)) (nomark _))))))))
      (pss_one (ps_ret pe_bl)), ?_⟩
    refine ⟨_, rfl, _, rfl, i, v, le, rfl, fun dd H' fl => ?_⟩
    have s0 : Same H H' := fl.s
    refine ⟨true, R.exm i le, fun _ a na => ?_, fun q => Bool.noConfusion q⟩
    refine ⟨_, rfl, rfl, rfl, dd, _, v, rfl, fl.x, rfl, _, rfl, sc, true, (by rw [decide_eq_true rfl]), iteT ?_⟩
    exact ⟨_, rfl, rfl, i, dd, _, le, rfl, rfl, fl.x, fun H2 s2 => ⟨_, rfl, rfl, Same.refl _, fun H3 s3 => k H3 (s0.trans (s2.trans s3))⟩⟩
theorem ok_empty {f fW : Addr} {fd dW : FuncData} {D : Nat → Addr} (F : Fun K "_law_empty" "_law_empty" sEmpty f fd) (R : Errs K mg fW D) (GW : FnOk P w K mg base CX0 1 fW dW ["self", "what"] (spW K)) (bW : ∃ ds, Vals [V.non] ds ∧ Binds K dW ["self", "what"] ds) :
    FnOk P w K mg base CX0 3 f fd [] spEmpty := by
  obtain ⟨ds, vds, bW1⟩ := bW
  refine F.ok scEm (fun vs H Q E h => ?_) (fun cdv A outer s H vs Q E hr h => ?_)
  · obtain ⟨rfl, _⟩ := h
    rfl
  · refine ⟨_, pss_cons (ps_set (i := 0) scEm.nd rfl (.inl rfl) (pe_lst (pa_cons (XR.pe_errF (XR.pmk_err0 (R.oex 0 (by decide)) (R.ini 0 (by decide)) R.fn GW hr bW1 vds pass0 (by rfl) R.m0) (R.xf 0 (by decide)) (R.no 0 (by decide)))
          (pa_cons (XR.pe_errF (XR.pmk_err0 (R.oex 1 (by decide)) (R.ini 1 (by decide)) R.fn GW hr bW1 vds pass0 (by rfl) R.m1) (R.xf 1 (by decide)) (R.no 1 (by decide)))
          (pa_cons (XR.pe_errF (XR.pmk_err0 (R.oex 2 (by decide)) (R.ini 2 (by decide)) R.fn GW hr bW1 vds pass0 (by rfl) R.m2) (R.xf 2 (by decide)) (R.no 2 (by decide)))
          (pa_cons (XR.pe_errF (XR.pmk_err0 (R.oex 3 (by decide)) (R.ini 3 (by decide)) R.fn GW hr bW1 vds pass0 (by rfl) R.m3) (R.xf 3 (by decide)) (R.no 3 (by decide)))
          (pa_cons (XR.pe_errF (XR.pmk_err0 (R.oex 4 (by decide)) (R.ini 4 (by decide)) R.fn GW hr bW1 vds pass0 (by rfl) R.m4) (R.xf 4 (by decide)) (R.no 4 (by decide)))
          (pa_cons (XR.pe_errF (XR.pmk_err0 (R.oex 5 (by decide)) (R.ini 5 (by decide)) R.fn GW hr bW1 vds pass0 (by rfl) R.m5) (R.xf 5 (by decide)) (R.no 5 (by decide)))
          pa_nil))))))))
      (pss_cons (ps_set (i := 1) scEm.nd rfl (.inl rfl) (pe_lst (pa_cons (XR.pe_errF (XR.pmk_err0 (R.oex 6 (by decide)) (R.ini 6 (by decide)) R.fn GW hr bW1 vds pass0 (by rfl) R.m6) (R.xf 6 (by decide)) (R.no 6 (by decide)))
          (pa_cons (XR.pe_errF (XR.pmk_err0 (R.oex 7 (by decide)) (R.ini 7 (by decide)) R.fn GW hr bW1 vds pass0 (by rfl) R.m7) (R.xf 7 (by decide)) (R.no 7 (by decide)))
          (pa_cons (XR.pe_errF (XR.pmk_err0 (R.oex 8 (by decide)) (R.ini 8 (by decide)) R.fn GW hr bW1 vds pass0 (by rfl) R.m8) (R.xf 8 (by decide)) (R.no 8 (by decide)))
          (pa_cons (XR.pe_errF (XR.pmk_err0 (R.oex 9 (by decide)) (R.ini 9 (by decide)) R.fn GW hr bW1 vds pass0 (by rfl) R.m9) (R.xf 9 (by decide)) (R.no 9 (by decide)))
          (pa_cons (XR.pe_errF (XR.pmk_err0 (R.oex 10 (by decide)) (R.ini 10 (by decide)) R.fn GW hr bW1 vds pass0 (by rfl) R.m10) (R.xf 10 (by decide)) (R.no 10 (by decide)))
          pa_nil)))))))
      (pss_cons (ps_for PassesOwn.never rfl (pi_list (pe_op op_cat (pv 0) (pv 1))) (pg_name (i := 2) scEm.nd rfl (.inl rfl))
        (pss_one (ps_if (pt_cmpR op_notN1 (pv 2) pe_non (nomark _)) (pss_one ps_never) pss_nil)))
      (pss_one (ps_ret pe_bl)))), ?_⟩
    obtain ⟨rfl, k⟩ := h
    refine ⟨(by show 0 ≤ 1000; decide), fun a0 na0 => ⟨a0, D 0, .non, rfl, R.oex 0 (by decide), R.no 0 (by decide), upd_same, fun dx0 nd0 ne0 => ⟨rfl, dx0, [("what", .non)], upd_same, (by rw [upd_ne ne0, upd_same]), (by rw [upd_ne ne0] at nd0; exact nd0), ?_⟩⟩⟩
    have fl0 := flies_of (C := D 0) (v := .non) na0 nd0 ne0
    generalize upd (del (upd (upd (upd H a0 (exo a0 (D 0) none)) dx0 (exd dx0 [("what", V.non)])) a0 (exo a0 (D 0) (some dx0))) a0) dx0 (.xd [("what", V.non)]) = H1 at fl0 ⊢
    refine ⟨rfl, dx0, _, .non, rfl, fl0.x, rfl, ?_⟩
    refine ⟨(by show 0 ≤ 1000; decide), fun a1 na1 => ⟨a1, D 1, .non, rfl, R.oex 1 (by decide), R.no 1 (by decide), upd_same, fun dx1 nd1 ne1 => ⟨rfl, dx1, [("what", .non)], upd_same, (by rw [upd_ne ne1, upd_same]), (by rw [upd_ne ne1] at nd1; exact nd1), ?_⟩⟩⟩
    have fl1 := flies_of (C := D 1) (v := .non) na1 nd1 ne1
    generalize upd (del (upd (upd (upd H1 a1 (exo a1 (D 1) none)) dx1 (exd dx1 [("what", V.non)])) a1 (exo a1 (D 1) (some dx1))) a1) dx1 (.xd [("what", V.non)]) = H2 at fl1 ⊢
    refine ⟨rfl, dx1, _, .non, rfl, fl1.x, rfl, ?_⟩
    refine ⟨(by show 0 ≤ 1000; decide), fun a2 na2 => ⟨a2, D 2, .non, rfl, R.oex 2 (by decide), R.no 2 (by decide), upd_same, fun dx2 nd2 ne2 => ⟨rfl, dx2, [("what", .non)], upd_same, (by rw [upd_ne ne2, upd_same]), (by rw [upd_ne ne2] at nd2; exact nd2), ?_⟩⟩⟩
    have fl2 := flies_of (C := D 2) (v := .non) na2 nd2 ne2
    generalize upd (del (upd (upd (upd H2 a2 (exo a2 (D 2) none)) dx2 (exd dx2 [("what", V.non)])) a2 (exo a2 (D 2) (some dx2))) a2) dx2 (.xd [("what", V.non)]) = H3 at fl2 ⊢
    refine ⟨rfl, dx2, _, .non, rfl, fl2.x, rfl, ?_⟩
    refine ⟨(by show 0 ≤ 1000; decide), fun a3 na3 => ⟨a3, D 3, .non, rfl, R.oex 3 (by decide), R.no 3 (by decide), upd_same, fun dx3 nd3 ne3 => ⟨rfl, dx3, [("what", .non)], upd_same, (by rw [upd_ne ne3, upd_same]), (by rw [upd_ne ne3] at nd3; exact nd3), ?_⟩⟩⟩
    have fl3 := flies_of (C := D 3) (v := .non) na3 nd3 ne3
    generalize upd (del (upd (upd (upd H3 a3 (exo a3 (D 3) none)) dx3 (exd dx3 [("what", V.non)])) a3 (exo a3 (D 3) (some dx3))) a3) dx3 (.xd [("what", V.non)]) = H4 at fl3 ⊢
    refine ⟨rfl, dx3, _, .non, rfl, fl3.x, rfl, ?_⟩
    refine ⟨(by show 0 ≤ 1000; decide), fun a4 na4 => ⟨a4, D 4, .non, rfl, R.oex 4 (by decide), R.no 4 (by decide), upd_same, fun dx4 nd4 ne4 => ⟨rfl, dx4, [("what", .non)], upd_same, (by rw [upd_ne ne4, upd_same]), (by rw [upd_ne ne4] at nd4; exact nd4), ?_⟩⟩⟩
    have fl4 := flies_of (C := D 4) (v := .non) na4 nd4 ne4
    generalize upd (del (upd (upd (upd H4 a4 (exo a4 (D 4) none)) dx4 (exd dx4 [("what", V.non)])) a4 (exo a4 (D 4) (some dx4))) a4) dx4 (.xd [("what", V.non)]) = H5 at fl4 ⊢
    refine ⟨rfl, dx4, _, .non, rfl, fl4.x, rfl, ?_⟩
    refine ⟨(by show 0 ≤ 1000; decide), fun a5 na5 => ⟨a5, D 5, .non, rfl, R.oex 5 (by decide), R.no 5 (by decide), upd_same, fun dx5 nd5 ne5 => ⟨rfl, dx5, [("what", .non)], upd_same, (by rw [upd_ne ne5, upd_same]), (by rw [upd_ne ne5] at nd5; exact nd5), ?_⟩⟩⟩
    have fl5 := flies_of (C := D 5) (v := .non) na5 nd5 ne5
    generalize upd (del (upd (upd (upd H5 a5 (exo a5 (D 5) none)) dx5 (exd dx5 [("what", V.non)])) a5 (exo a5 (D 5) (some dx5))) a5) dx5 (.xd [("what", V.non)]) = H6 at fl5 ⊢
    refine ⟨rfl, dx5, _, .non, rfl, fl5.x, rfl, ?_⟩
    refine ⟨(by show 6 ≤ sizeLine; decide), fun r nr => ?_⟩
    have sA : Same H H6 := ((fl0.s.trans fl1.s).trans (fl2.s.trans fl3.s)).trans (fl4.s.trans fl5.s)
    have sB : Same H6 (upd H6 r (.lst [V.non, V.non, V.non, V.non, V.non, V.non])) := Same.upd nr
    have eB : (upd H6 r (.lst [V.non, V.non, V.non, V.non, V.non, V.non])) r = some (.lst [V.non, V.non, V.non, V.non, V.non, V.non]) := upd_same
    generalize upd H6 r (.lst [V.non, V.non, V.non, V.non, V.non, V.non]) = G at sB eB ⊢
    refine ⟨(by show 0 ≤ 1000; decide), fun a6 na6 => ⟨a6, D 6, .non, rfl, R.oex 6 (by decide), R.no 6 (by decide), upd_same, fun dx6 nd6 ne6 => ⟨rfl, dx6, [("what", .non)], upd_same, (by rw [upd_ne ne6, upd_same]), (by rw [upd_ne ne6] at nd6; exact nd6), ?_⟩⟩⟩
    have fl6 := flies_of (C := D 6) (v := .non) na6 nd6 ne6
    generalize upd (del (upd (upd (upd G a6 (exo a6 (D 6) none)) dx6 (exd dx6 [("what", V.non)])) a6 (exo a6 (D 6) (some dx6))) a6) dx6 (.xd [("what", V.non)]) = H7 at fl6 ⊢
    refine ⟨rfl, dx6, _, .non, rfl, fl6.x, rfl, ?_⟩
    refine ⟨(by show 0 ≤ 1000; decide), fun a7 na7 => ⟨a7, D 7, .non, rfl, R.oex 7 (by decide), R.no 7 (by decide), upd_same, fun dx7 nd7 ne7 => ⟨rfl, dx7, [("what", .non)], upd_same, (by rw [upd_ne ne7, upd_same]), (by rw [upd_ne ne7] at nd7; exact nd7), ?_⟩⟩⟩
    have fl7 := flies_of (C := D 7) (v := .non) na7 nd7 ne7
    generalize upd (del (upd (upd (upd H7 a7 (exo a7 (D 7) none)) dx7 (exd dx7 [("what", V.non)])) a7 (exo a7 (D 7) (some dx7))) a7) dx7 (.xd [("what", V.non)]) = H8 at fl7 ⊢
    refine ⟨rfl, dx7, _, .non, rfl, fl7.x, rfl, ?_⟩
    refine ⟨(by show 0 ≤ 1000; decide), fun a8 na8 => ⟨a8, D 8, .non, rfl, R.oex 8 (by decide), R.no 8 (by decide), upd_same, fun dx8 nd8 ne8 => ⟨rfl, dx8, [("what", .non)], upd_same, (by rw [upd_ne ne8, upd_same]), (by rw [upd_ne ne8] at nd8; exact nd8), ?_⟩⟩⟩
    have fl8 := flies_of (C := D 8) (v := .non) na8 nd8 ne8
    generalize upd (del (upd (upd (upd H8 a8 (exo a8 (D 8) none)) dx8 (exd dx8 [("what", V.non)])) a8 (exo a8 (D 8) (some dx8))) a8) dx8 (.xd [("what", V.non)]) = H9 at fl8 ⊢
    refine ⟨rfl, dx8, _, .non, rfl, fl8.x, rfl, ?_⟩
    refine ⟨(by show 0 ≤ 1000; decide), fun a9 na9 => ⟨a9, D 9, .non, rfl, R.oex 9 (by decide), R.no 9 (by decide), upd_same, fun dx9 nd9 ne9 => ⟨rfl, dx9, [("what", .non)], upd_same, (by rw [upd_ne ne9, upd_same]), (by rw [upd_ne ne9] at nd9; exact nd9), ?_⟩⟩⟩
    have fl9 := flies_of (C := D 9) (v := .non) na9 nd9 ne9
    generalize upd (del (upd (upd (upd H9 a9 (exo a9 (D 9) none)) dx9 (exd dx9 [("what", V.non)])) a9 (exo a9 (D 9) (some dx9))) a9) dx9 (.xd [("what", V.non)]) = H10 at fl9 ⊢
    refine ⟨rfl, dx9, _, .non, rfl, fl9.x, rfl, ?_⟩
    refine ⟨(by show 0 ≤ 1000; decide), fun a10 na10 => ⟨a10, D 10, .non, rfl, R.oex 10 (by decide), R.no 10 (by decide), upd_same, fun dx10 nd10 ne10 => ⟨rfl, dx10, [("what", .non)], upd_same, (by rw [upd_ne ne10, upd_same]), (by rw [upd_ne ne10] at nd10; exact nd10), ?_⟩⟩⟩
    have fl10 := flies_of (C := D 10) (v := .non) na10 nd10 ne10
    generalize upd (del (upd (upd (upd H10 a10 (exo a10 (D 10) none)) dx10 (exd dx10 [("what", V.non)])) a10 (exo a10 (D 10) (some dx10))) a10) dx10 (.xd [("what", V.non)]) = H11 at fl10 ⊢
    refine ⟨rfl, dx10, _, .non, rfl, fl10.x, rfl, ?_⟩
    refine ⟨(by show 5 ≤ sizeLine; decide), fun r2 nr2 => ?_⟩
    have sC : Same G H11 := ((fl6.s.trans fl7.s).trans (fl8.s.trans fl9.s)).trans fl10.s
    have sD : Same H11 (upd H11 r2 (.lst [V.non, V.non, V.non, V.non, V.non])) := Same.upd nr2
    have eD : (upd H11 r2 (.lst [V.non, V.non, V.non, V.non, V.non])) r2 = some (.lst [V.non, V.non, V.non, V.non, V.non]) := upd_same
    generalize upd H11 r2 (.lst [V.non, V.non, V.non, V.non, V.non]) = G2 at sD eD ⊢
    refine ⟨_, rfl, _, rfl, r, r2, _, _, rfl, rfl, sD _ _ (sC _ _ eB), eD, (by show 11 ≤ sizeLine; decide), fun p np => ?_⟩
    have sE : Same G2 (upd G2 p (.lst ([V.non, V.non, V.non, V.non, V.non, V.non] ++ [V.non, V.non, V.non, V.non, V.non]))) := Same.upd np
    have eE : (upd G2 p (.lst ([V.non, V.non, V.non, V.non, V.non, V.non] ++ [V.non, V.non, V.non, V.non, V.non]))) p = some (.lst ([V.non, V.non, V.non, V.non, V.non, V.non] ++ [V.non, V.non, V.non, V.non, V.non])) := upd_same
    generalize upd G2 p (.lst ([V.non, V.non, V.non, V.non, V.non, V.non] ++ [V.non, V.non, V.non, V.non, V.non])) = G3 at sE eE ⊢
    refine ⟨p, rfl, ⟨_, SqL.of eE⟩, for_list (K := K) (a := p) (xs := [V.non, V.non, V.non, V.non, V.non, V.non, V.non, V.non, V.non, V.non, V.non]) (fun _ σ H' => ∃ y, σ = [some (.ref r), some (.ref r2), y] ∧ H' = G3) ⟨_, rfl, rfl⟩ (fun i σ H' _ h => by obtain ⟨_, _, rfl⟩ := h; exact SqL.of eE) ?_ ?_⟩
    · rintro i x σ H' hx ⟨y, rfl, rfl⟩
      obtain rfl : x = .non := by
        have m := List.mem_of_getElem? hx
        simpa using m
      exact ⟨_, rfl, rfl, _, rfl, iteF ⟨_, rfl, rfl⟩⟩
    · rintro σ H' ⟨y, rfl, rfl⟩
      exact k _ (((sA.trans sB).trans (sC.trans sD)).trans sE)
end
end RX

set_option Elab.async false
set_option maxRecDepth 100000
namespace RX
open PySem L2 L2H XH
def tIsW (a : Addr) (cls : Value) (d : Option Addr) (D : Nat → Addr) (i0 : Nat) : TE := fun σ H Q => tVar i0 σ H fun x H1 => x = .ref a ∧ cls = .ref (D 6) ∧ ∃ (dd : Addr) (fs : List (Str × V)), d = some dd ∧ H1 dd = some (.xd fs) ∧ Q (.bl true) H1
theorem pe_isW {X : Cx} {a fW : Addr} {oe : Obj} {cls : Value} {d : Option Addr} {pn : List (Addr × Obj)} {D : Nat → Addr} {i0 : Nat} {e : Expr} (R : Errs X.K X.mg fW D) (hz : L2N.Zn cls d oe) (hf : ∃ vs, oe.data = .fields vs)
    (h : oe.cls = .ref (D 6) → PE (X.suite a ((a, oe) :: pn)) e (fun σ H Q => tVar i0 σ H fun x H1 => rIsP X.K (D 6) (a, oe) [x, .ref (D 10)] H1 Q)) : PE (X.suite a ((a, oe) :: pn)) e (tIsW a cls d D i0) := by
  refine ⟨fun pins s σ H Q I told => ?_⟩
  obtain ⟨x, ex, rfl, rfl, dd, fs, rfl, at_d, q⟩ := told
  exact (h hz.1).run pins s σ H Q I ⟨_, ex, .ref (D 10), .ref (D 10), true, dd, fs, rfl, only_ref, R.kitW 6 (by decide), hz.2.1, at_d, q⟩
section
variable {P : Program} {w : World} {K : PySem.W.Frag} {mg : Str → Option Value} {base : Heap}
theorem ok_byname {f fW : Addr} {fd dW : FuncData} {D : Nat → Addr} (F : Fun K "_law_by_name" "_law_by_name" sByName f fd) (T : TxtL mg) (R : Errs K mg fW D) (GW : FnOk P w K mg base CX0 1 fW dW ["self", "what"] (spW K)) (bW : ∃ its : List Value, KBn K dW ["self", "what"] 1 ["what"] (fun us ws => us ++ ws) (fun vs zs => vs ++ zs)) :
    FnOk P w K mg base CX0 3 f fd ["thing"] spByName := by
  obtain ⟨_, bW1⟩ := bW
  refine F.ok scBn (fun vs H Q E h => ?_) (fun cdv A outer s H vs Q E hr h => ?_)
  · obtain ⟨v, rfl, _⟩ := h
    rfl
  · refine ⟨_, pss_one (L2N.ps_try_as (i := 1) (tb := fun W => (fun _ σ H => XR.tErrK (D 6) (spW K) (fun vs zs => vs ++ zs) (List.length [("what" : Str)]) (tCons (tVar 0) tNil) σ H fun cls d H' => W cls d σ H'))
        (ts := fun a cls d => tRet (tAndV (tOp rEq (tXf a cls d (D 6) "what" (tVar 1)) (tVar 0)) (tIsW a cls d D 1))) (Wout := fun _ _ _ _ => False) rfl rfl scBn.nd rfl rfl ⟨rfl, by decide, Or.inl R.m6⟩ nothing_out
        (fun W pn xe tk _ => pss_one (by exact (L2N.ps_raise (W := W) (t := XR.tErrK (D 6) (spW K) (fun vs zs => vs ++ zs) (List.length [("what" : Str)]) (tCons (tVar 0) tNil)) rfl tk (XR.pmk_errK (R.oex 6 (by decide)) (R.ini 6 (by decide)) R.fn GW hr bW1 pass0 (by rfl) R.m6 (pk_cons (pv 0) pk_nil)))))
        (fun a oe cls d pn hz hf => pss_one (ps_ret (pe_and (pe_cmpR op_eq (pe_xf (R.xf 6 (by decide)) (R.no 6 (by decide)) hz.zc hf (pv 1)) (pv 0) (nomark _)) (pe_one (pe_isW R hz hf fun hc =>
          (pe_callB (call_isP List.mem_cons_self (R.cl 6 (by decide)) hc hf) (by rfl) T.isi (by decide +kernel) (pa_cons (pv 1) (pa_cons (pe_glob (v := .ref (D 10)) (by rfl) R.m10 rfl) pa_nil))))))))), ?_⟩
    obtain ⟨v, rfl, sc, k⟩ := h
    refine ⟨_, rfl, rfl, fun a na => ⟨a, D 6, v, rfl, R.oex 6 (by decide), R.no 6 (by decide), upd_same, fun dx nd ne => ⟨rfl, dx, [("what", v)], upd_same, (by rw [upd_ne ne, upd_same]), (by rw [upd_ne ne] at nd; exact nd), ?_⟩⟩⟩
    have fl := flies_of (C := D 6) (v := v) na nd ne
    generalize upd (del (upd (upd (upd H a (exo a (D 6) none)) dx (exd dx [("what", v)])) a (exo a (D 6) (some dx))) a) dx (.xd [("what", v)]) = H' at fl ⊢
    refine ⟨true, R.exm6, fun _ a2 na2 => ?_, fun q => Bool.noConfusion q⟩
    refine ⟨_, rfl, rfl, rfl, dx, _, v, rfl, fl.x, rfl, _, rfl, sc, true, (by rw [decide_eq_true rfl]), iteT ?_⟩
    exact ⟨_, rfl, rfl, rfl, dx, _, rfl, fl.x, k H' fl.s⟩
end
end RX

set_option Elab.async false
set_option maxRecDepth 100000
namespace RX
open PySem L2 L2H XH
abbrev sLaw : Stmt := topS 32
theorem three (r : Int) (h0 : 0 ≤ r) (h1 : r < 3) : ∃ m : Int, atI [V.int 1, V.int 4, V.int 28] r = some (.int m) ∧ 1 ≤ m ∧ m ≤ 28 := by
  have : r = 0 ∨ r = 1 ∨ r = 2 := by omega
  rcases this with rfl | rfl | rfl
  · exact ⟨1, rfl, by decide, by decide⟩
  · exact ⟨4, rfl, by decide, by decide⟩
  · exact ⟨28, rfl, by decide, by decide⟩
def spLaw (K : PySem.W.Frag) : Sp := fun vs H Q _ => ∃ (a : Addr) (ns : List Int), vs = [.ref a] ∧ SqL K H a (ns.map V.int) ∧ ns.length ≤ 63 ∧ ∀ H', Q (.bl true) H'
section
variable {P : Program} {w : World} {K : PySem.W.Frag} {mg : Str → Option Value} {base : Heap}
theorem scL : FnScope ["script", "feed", "parts", "one", "two", "great", "k"] ["script"] (defScope sLaw) := ⟨rfl, rfl, rfl, by decide +kernel, rfl, by decide +kernel, by decide +kernel⟩
theorem ok_law {f fFe fDr fGr fFr fQ fRf fEr fEm fBn : Addr} {fd dFe dDr dGr dFr dQ dRf dEr dEm dBn : FuncData} (F : Fun K "law" "law" sLaw f fd) (T : TxtL mg) (ms : mg "str" = none)
    (cFe : CalN P w K mg base "_law_feed" 1 ["script"] (spFeed K) fFe dFe) (cDr : CalN P w K mg base "_law_draw" 1 ["feed", "limit"] spDraw fDr dDr) (cGr : CalN P w K mg base "_law_great" 2 ["feed", "parts"] spGreat fGr dGr) (cFr : CalN P w K mg base "_law_fraction" 3 ["feed", "parts"] spFrac fFr dFr)
    (cQ : CalN P w K mg base "_law_quotient" 6 ["one", "two"] spQuot fQ dQ) (cRf : CalN P w K mg base "_law_refused" 5 ["above"] spRefused fRf dRf) (cEr : CalN P w K mg base "_law_error" 4 ["k", "thing"] spErr fEr dEr) (cEm : CalN P w K mg base "_law_empty" 3 [] spEmpty fEm dEm) (cBn : CalN P w K mg base "_law_by_name" 3 ["thing"] spByName fBn dBn) :
    FnOk P w K mg base CX0 7 f fd ["script"] (spLaw K) := by
  refine F.ok scL (fun vs H Q E h => ?_) (fun cdv A outer s H vs Q E hr h => ?_)
  · obtain ⟨a, ns, rfl, _⟩ := h
    rfl
  · obtain ⟨a, ns, rfl, hS, hl, k⟩ := h
    have hr1 : Room 1 _ := hr.mono (by decide)
    have hr2 : Room 2 _ := hr.mono (by decide)
    have hr3 : Room 3 _ := hr.mono (by decide)
    have hr4 : Room 4 _ := hr.mono (by decide)
    have hr5 : Room 5 _ := hr.mono (by decide)
    refine ⟨_, (pss_cons (ps_set (i := 1) scL.nd rfl (.inl rfl) (pe_call cFe.G hr1 rfl cFe.m cFe.kp cFe.b .nil pass0 (pa_cons (pv 0) pa_nil)))
      (pss_cons (ps_set (i := 2) scL.nd rfl (.inl rfl) (pe_ix ix_list (pe_lst (pa_cons pe_int (pa_cons pe_int (pa_cons pe_int pa_nil)))) (pe_call cDr.G hr1 rfl cDr.m cDr.kp cDr.b .nil pass0 (pa_cons (pv 1) (pa_cons pe_int pa_nil))) (fun _ _ => rfl)))
      (pss_cons (ps_set (i := 3) scL.nd rfl (.inl rfl) (pe_call cFr.G hr3 rfl cFr.m cFr.kp cFr.b .nil pass0 (pa_cons (pv 1) (pa_cons (pv 2) pa_nil))))
      (pss_cons (ps_set (i := 4) scL.nd rfl (.inl rfl) (pe_call cFr.G hr3 rfl cFr.m cFr.kp cFr.b .nil pass0 (pa_cons (pv 1) (pa_cons (pv 2) pa_nil))))
      (C8.pss_cut (ps_if (pt_cmpR op_eq (pe_call cDr.G hr1 rfl cDr.m cDr.kp cDr.b .nil pass0 (pa_cons (pv 1) (pa_cons pe_int pa_nil))) pe_int (nomark _)) (pss_one (ps_set (i := 4) scL.nd rfl (.inl rfl) (pe_tup (pa_cons pe_int (pa_cons (pe_ix ix_tup (pv 4) pe_int (fun _ _ => rfl)) pa_nil))))) pss_nil)
      (pss_cons (ps_if (PW.pt (pw_or (pt_not (pt_val (pe_call cQ.G hr rfl cQ.m cQ.kp cQ.b .nil pass0 (pa_cons (pv 3) (pa_cons (pv 4) pa_nil))))) (pw_or (pt_not (pt_val (pe_call cQ.G hr rfl cQ.m cQ.kp cQ.b .nil pass0 (pa_cons (pv 4) (pa_cons (pv 3) pa_nil))))) (pw_or1 (pt_not (pt_val (pe_call cQ.G hr rfl cQ.m cQ.kp cQ.b .nil pass0 (pa_cons (pv 3) (pa_cons (pv 3) pa_nil))))))))) (pss_one ps_never) pss_nil)
      (pss_cons (ps_set (i := 5) scL.nd rfl (.inl rfl) (pe_call cGr.G hr2 rfl cGr.m cGr.kp cGr.b .nil pass0 (pa_cons (pv 1) (pa_cons pe_int pa_nil))))
      (pss_cons (ps_if (PW.pt (pw_or (pt_not (pt_val (pe_call cRf.G hr5 rfl cRf.m cRf.kp cRf.b .nil pass0 (pa_cons (pe_ix ix_tup (pv 3) pe_int (fun _ _ => rfl)) pa_nil)))) (pw_or (pt_not (pt_val (pe_call cRf.G hr5 rfl cRf.m cRf.kp cRf.b .nil pass0 (pa_cons pe_int pa_nil)))) (pw_or1 (pt_not (pt_val (pe_call cRf.G hr5 rfl cRf.m cRf.kp cRf.b .nil pass0 (pa_cons (pv 5) pa_nil)))))))) (pss_one ps_never) pss_nil)
      (pss_cons (ps_for PassesOwn.never rfl (pi_range1 rfl T.range (pa_cons pe_int pa_nil)) (pg_name (i := 6) scL.nd rfl (Or.inl rfl)) (pss_one (ps_if (PW.pt (pw_or (pt_not (pt_val (pe_call cEr.G hr4 rfl cEr.m cEr.kp cEr.b .nil pass0 (pa_cons (pv 6) (pa_cons (pv 5) pa_nil))))) (pw_or (pt_not (pt_val (pe_call cEr.G hr4 rfl cEr.m cEr.kp cEr.b .nil pass0 (pa_cons (pv 6) (pa_cons (pe_callTy call_str_int (by rfl) ms (by decide +kernel) (pa_cons (pv 5) pa_nil)) pa_nil))))) (pw_or1 (pt_not (pt_val (pe_call cEr.G hr4 rfl cEr.m cEr.kp cEr.b .nil pass0 (pa_cons (pv 6) (pa_cons pe_str pa_nil))))))))) (pss_one ps_never) pss_nil)))
      (pss_one (ps_ret (pe_and (pe_call0 cEm.G hr3 rfl cEm.m cEm.kp cEm.b .nil pass0) (pe_one (pe_call cBn.G hr3 rfl cBn.m cBn.kp cBn.b .nil pass0 (pa_cons (pv 5) pa_nil))))))))))))))), ?_⟩
    refine ⟨_, rfl, a, ns, rfl, hS, hl, fun fe cl H1 s1 nfe ncl f1 => ?_⟩
    refine ⟨(by show 3 ≤ sizeLine; decide), fun l nl => ?_⟩
    obtain ⟨xs1, hfe1⟩ := f1.lst
    have nel : l ≠ fe := (ne_of_none hfe1 nl).symm
    refine ⟨_, rfl, fe, cl, 3, rfl, f1.same (Same.upd nl), by decide, by decide, fun r H2 r0 r1 f2 b2 => ?_⟩
    obtain ⟨m, hm, m1, m28⟩ := three r r0 r1
    refine ⟨l, _, r, _, rfl, rfl, SqL.of (b2 _ _ upd_same nel), hm, ?_⟩
    have tiB : ∀ {x : Int}, x.natAbs ≤ (100000 : Nat) ^ m.toNat → Ti x := fun {x} hx => by
      have h1 : (100000 : Nat) ^ m.toNat ≤ 100000 ^ (28 : Nat) := Nat.pow_le_pow_right (by decide) (by omega)
      have h2 : (100000 : Nat) ^ 28 ≤ (2 ^ 17) ^ 28 := Nat.pow_le_pow_left (by decide) _
      rw [← Nat.pow_mul] at h2
      exact Nat.lt_of_le_of_lt (Nat.le_trans hx (Nat.le_trans h1 h2)) (Nat.pow_lt_pow_right (by decide) (by decide))
    -- one, two
    refine ⟨_, rfl, _, rfl, fe, cl, m, rfl, f2, m1, by omega, fun q1 t1 b1 H3 f3 bu3 n3 ne3 p1 b10 ht1 hb1 => ?_⟩
    obtain ⟨xs3, hfe3⟩ := f3.lst
    refine ⟨_, rfl, _, rfl, fe, cl, m, rfl, f3, m1, by omega, fun q2 t2 b2' H4 f4 bu4 n4 ne4 p2 b20 ht2 hb2 => ?_⟩
    have p1' := p1.but bu4 (p1.ne hfe3)
    obtain ⟨xs4, hfe4⟩ := f4.lst
    have T1 := tiB ht1
    have T2 := tiB hb1
    have T3 := tiB ht2
    have T4 := tiB hb2
    refine ⟨fun σ' H' => ∃ (q : Addr) (t : Int), σ' = [some (.ref a), some (.ref fe), some (.int m), some (.ref q1), some (.ref q), none, none] ∧ PairAt H' q1 t1 b1 ∧ PairAt H' q t b2' ∧ Ti t ∧ FeedAt H' fe cl, ?_, ?_⟩
    · refine ⟨_, rfl, fe, cl, 3, rfl, f4, by decide, by decide, fun nr H5 nr0 nr1 f5 bu5 => ?_⟩
      have p1 := p1'.but bu5 (p1'.ne hfe4)
      have p2 := p2.but bu5 (p2.ne hfe4)
      refine ⟨rfl, _, rfl, ?_⟩
      refine ite2 (fun z => ?_) (fun _ => ⟨q2, t2, rfl, p1, p2, T3, f5⟩)
      refine ⟨_, rfl, q2, _, 1, _, rfl, rfl, p2.t, rfl, (by show 2 ≤ sizeLine; decide), fun u nu => ?_⟩
      exact ⟨u, 0, rfl, p1.same (Same.upd nu), upd_same, (by show (0 : Nat) < 2 ^ 500; exact Nat.pow_pos (by decide)), f5.same (Same.upd nu)⟩
    rintro σ5 H5 ⟨q, t, rfl, p1, p2, Tt, f5⟩
    have z1 : b1 ≠ 0 := by omega
    have z2 : b2' ≠ 0 := by omega
    refine ⟨_, rfl, _, rfl, q1, q, _, _, _, _, rfl, p1, p2, z1, z2, T1, T2, Tt, T4, fun H6 s6 => ⟨true, rfl, iteF ?_⟩⟩
    refine ⟨_, rfl, _, rfl, q, q1, _, _, _, _, rfl, p2.same s6, p1.same s6, z2, z1, Tt, T4, T1, T2, fun H7 s7 => ⟨true, rfl, iteF ?_⟩⟩
    have s7 := s6.trans s7
    refine ⟨_, rfl, _, rfl, q1, q1, _, _, _, _, rfl, p1.same s7, p1.same s7, z1, z1, T1, T2, T1, T2, fun H8 s8 => ⟨true, rfl, iteF ?_⟩⟩
    have s8 := s7.trans s8
    have f8 := f5.same s8
    obtain ⟨xs8, hfe8⟩ := f8.lst
    refine ⟨_, rfl, fe, cl, 4, rfl, f8, by decide, by decide, fun g H9 g0 g1 f9 b9 => ?_⟩
    have p1 := (p1.same s8).but b9 ((p1.same s8).ne hfe8)
    refine ⟨_, rfl, q1, _, 0, _, rfl, rfl, p1.t, rfl, _, rfl, fun H10 s10 => ⟨true, rfl, iteF ?_⟩⟩
    refine ⟨_, rfl, fun H11 s11 => ⟨true, rfl, iteF ?_⟩⟩
    refine ⟨_, rfl, _, rfl, fun H12 s12 => ⟨true, rfl, iteF ?_⟩⟩
    have glog : g.natAbs.log2 < 1920 := by
      have hg : g.natAbs < 2 ^ 100 := by
        have e : (100000 : Int) ^ (4 : Int).toNat = 100000000000000000000 := by decide
        have : (2 : Nat) ^ 100 = 1267650600228229401496703205376 := by decide
        omega
      exact Nat.lt_of_lt_of_le (PySem.Flt.log2_lt_of (by decide) hg) (by decide)
    refine ⟨11, rfl, by decide, by decide, for_range (lo := 0) (n := 11) (fun _ σ H' => ∃ y, σ = [some (.ref a), some (.ref fe), some (.int m), some (.ref q1), some (.ref q), some (.int g), y]) ⟨_, rfl⟩ ?_ ?_⟩
    · rintro i σ Ha hi ⟨y, rfl⟩
      have e0 : (0 : Int) + (i : Int) = (i : Int) := Int.zero_add _
      rw [e0]
      refine ⟨_, rfl, _, rfl, i, _, Nat.le_of_lt_succ hi, rfl, rfl, fun Hb sb => ⟨true, rfl, iteF ?_⟩⟩
      refine ⟨_, rfl, _, rfl, g, rfl, glog, i, _, Nat.le_of_lt_succ hi, rfl, rfl, fun Hc sc => ⟨true, rfl, iteF ?_⟩⟩
      refine ⟨_, rfl, i, _, Nat.le_of_lt_succ hi, rfl, rfl, fun Hd sd => ⟨true, rfl, iteF ?_⟩⟩
      exact ⟨_, rfl⟩
    · rintro σ Ha ⟨y, rfl⟩
      refine ⟨rfl, fun Hb sb => ⟨true, rfl, iteT ?_⟩⟩
      exact ⟨_, rfl, _, rfl, rfl, fun Hc sc => k _⟩
end
end RX

set_option Elab.async false
set_option linter.all false
set_option maxRecDepth 100000
/-! Own classes of errors: one base over ValueError, the others right above the base. -/
namespace XE
open PySem PySem.Spec PyProof.Rows L2
def four : List Value := [.type "ValueError", .type "Exception", .type "BaseException", .type "object"]
/-- the class C stands written, its chain is C :: bm -/
def Line (K : PySem.W.Frag) (C : Addr) (bm : List Value) : Prop := ∃ nm q N bs sn sub ab col dd k0 k1 k2 k3 k5, K.lookup C = some (excClassObj nm q C N bs bm true sn sub ab col dd k0 k1 k2 k3 k5 "ValueError.__new__")
section
variable {K : PySem.W.Frag} {C B : Addr} {bm : List Value}
theorem Line.cls (l : Line K C bm) : (PySem.W.clsIn K C).isSome = true := by
  obtain ⟨_, _, _, _, _, _, _, _, _, _, _, _, _, _, e⟩ := l
  unfold PySem.W.clsIn
  rw [e]
  rfl
theorem Line.sub (l : Line K C bm) (x : Value) : PySem.W.subIn K (.ref C) x = some ((Value.ref C :: bm).contains x) := by
  obtain ⟨_, _, _, _, _, _, _, _, _, _, _, _, _, _, e⟩ := l
  show PySem.W.mroIn K C x = _
  unfold PySem.W.mroIn PySem.W.clsIn
  rw [e]
  rfl
theorem Line.ty (l : Line K C bm) : PySem.W.typeIn K (.ref C) = some (.type "type") := by
  obtain ⟨_, _, _, _, _, _, _, _, _, _, _, _, _, _, e⟩ := l
  show Option.map (fun x => x.cls) (List.lookup C K) = _
  rw [e]
  rfl
theorem Line.kit (l : Line K B bm) {t : Value} {b : Bool} (s : PySem.W.subIn K t (.ref B) = some b) : PySem.W.kitCls K t (.ref B) = some b := by
  unfold PySem.W.kitCls
  have h : ((PySem.W.clsIn K B).isSome && PySem.W.typeIn K (.ref B) == some (.type "type")) = true := by
    rw [l.cls, l.ty]
    simp
  simp only [h, if_true, s]
theorem Line.one (l : Line K B bm) {t : Value} {b : Bool} (s : PySem.W.subIn K t (.ref B) = some b) (ne : b = false → t ≠ .ref B) : PySem.W.kitOne K t (.ref B) = some b := by
  unfold PySem.W.kitOne
  by_cases e : (t == .ref B) = true
  · rw [if_pos e]
    cases b with
    | true => rfl
    | false => exact absurd (beq_iff_eq.mp e) (ne rfl)
  · rw [if_neg e]
    exact l.kit s
theorem Line.exm (l : Line K B bm) {t : Value} {b : Bool} (s : PySem.W.subIn K t (.ref B) = some b) (ex : PySem.W.subIn K (.ref B) (.type "BaseException") = some true) : PySem.W.exmOne K t (.ref B) = some b := by
  unfold PySem.W.exmOne
  rw [if_pos (by rw [ex]; simp)]
  exact l.kit s
end
/-- the chains of the errors D 0 .. D 9 and of their base D 10 -/
def chain (D : Nat → Addr) (i : Nat) : List Value := if i = 10 then four else .ref (D 10) :: four
section
variable {D : Nat → Addr} {i j : Nat}
theorem chain_ty {T : String} (h : Value.type T ∈ four) : (Value.ref (D i) :: chain D i).contains (.type T) = true := by
  rw [List.contains_iff_mem]
  refine List.mem_cons_of_mem _ ?_
  unfold chain
  split
  · exact h
  · exact List.mem_cons_of_mem _ h
theorem no_ref {a : Addr} : ¬ Value.ref a ∈ four := by
  intro h
  unfold four at h
  simp at h
theorem chain_base (hi : i ≤ 10) : (Value.ref (D i) :: chain D i).contains (.ref (D 10)) = true := by
  rw [List.contains_iff_mem]
  by_cases e : i = 10
  · subst e
    exact List.mem_cons_self
  · unfold chain
    rw [if_neg e]
    exact List.mem_cons_of_mem _ List.mem_cons_self
theorem chain_ref (inj : ∀ i j, i ≤ 10 → j ≤ 10 → D i = D j → i = j) (hi : i ≤ 10) (hj : j ≤ 9) : (Value.ref (D i) :: chain D i).contains (.ref (D j)) = decide (i = j) := by
  by_cases e : i = j
  · subst e
    rw [decide_eq_true rfl, List.contains_iff_mem]
    exact List.mem_cons_self
  · rw [decide_eq_false e, Bool.eq_false_iff]
    intro h
    rw [List.contains_iff_mem] at h
    rcases List.mem_cons.mp h with h | h
    · injection h with h
      exact e (inj j i (by omega) hi h).symm
    · unfold chain at h
      split at h
      · exact no_ref h
      · rcases List.mem_cons.mp h with h | h
        · injection h with h
          have := inj j 10 (by omega) (Nat.le_refl _) h
          omega
        · exact no_ref h
theorem chain_ve : PySem.HandSPX.refsVE (chain D i) = true := by
  unfold chain
  split
  · show PySem.HandSPX.refsVE four = true
    decide +kernel
  · show PySem.HandSPX.refsVE four = true
    decide +kernel
end
theorem upto10 {p : Nat → Prop} (h0 : p 0) (h1 : p 1) (h2 : p 2) (h3 : p 3) (h4 : p 4) (h5 : p 5) (h6 : p 6) (h7 : p 7) (h8 : p 8) (h9 : p 9) (h10 : p 10) : ∀ i, i ≤ 10 → p i
  | 0, _ => h0 | 1, _ => h1 | 2, _ => h2 | 3, _ => h3 | 4, _ => h4 | 5, _ => h5 | 6, _ => h6 | 7, _ => h7 | 8, _ => h8 | 9, _ => h9 | 10, _ => h10
  | n + 11, h => absurd h (by omega)
end XE

set_option Elab.async false
set_option maxRecDepth 100000
namespace RX
open PySem L2 L2H XH XE
theorem inj_of {l : List Addr} (nd : l.Nodup) (hl : l.length = 11) : ∀ i j, i ≤ 10 → j ≤ 10 → l.getD i 0 = l.getD j 0 → i = j := by
  intro i j hi hj e
  have h1 : i < l.length := by omega
  have h2 : j < l.length := by omega
  rw [List.getD_eq_getElem?_getD, List.getD_eq_getElem?_getD, List.getElem?_eq_getElem h1, List.getElem?_eq_getElem h2] at e
  have e : l[i] = l[j] := e
  have pw := List.pairwise_iff_getElem.mp nd
  rcases Nat.lt_trichotomy i j with z | z | z
  · exact absurd e (pw i j h1 h2 z)
  · exact z
  · exact absurd e.symm (pw j i h2 h1 z)
theorem errs_of {K : PySem.W.Frag} {mg : Str → Option Value} {fW : Addr} {D : Nat → Addr} (inj : ∀ i j, i ≤ 10 → j ≤ 10 → D i = D j → i = j) (line : ∀ i, i ≤ 10 → Line K (D i) (chain D i)) (sa : ∀ i, i ≤ 10 → PySem.W.findIn K (.ref (D i)) "__setattr__" = some (some (.builtin "object.__setattr__")))
    (kC : ∀ i, i ≤ 10 → PySem.W.keepIn K (.ref (D i)) = true) (ini : ∀ i, i ≤ 10 → PySem.W.findIn K (.ref (D i)) "__init__" = some (some (.ref fW))) (no : ∀ i, i ≤ 10 → PySem.W.findIn K (.ref (D i)) "what" = some none) (fn : PySem.W.typeIn K (.ref fW) = some (.type "function"))
    (ga : ∀ i, i ≤ 10 → PySem.W.findIn K (.ref (D i)) "__getattribute__" = some (some (.builtin "BaseException.__getattribute__"))) (gg : ∀ i, i ≤ 10 → PySem.W.findIn K (.ref (D i)) "__getattr__" = some none) (hd : ∀ i, i ≤ 10 → PySem.W.hasDictIn K (D i) = true)
    (cl : ∀ i, i ≤ 10 → PySem.W.findIn K (.ref (D i)) "__class__" = some (some (.builtin "object.__class__"))) (xn : PySem.W.specialIn K (.builtin "object.__class__") "__get__" = some (some (.builtin "getset_descriptor.__get__"))) (xt : PySem.W.takesIn K (.builtin "object.__class__") = some true)
    (m0 : mg "BadNumber" = some (.ref (D 0))) (m1 : mg "BadMachine" = some (.ref (D 1))) (m2 : mg "BadWord" = some (.ref (D 2))) (m3 : mg "BadStar" = some (.ref (D 3))) (m4 : mg "BadText" = some (.ref (D 4))) (m5 : mg "BadPaper" = some (.ref (D 5))) (m6 : mg "BadDeed" = some (.ref (D 6))) (m7 : mg "TooMany" = some (.ref (D 7)))
    (m8 : mg "Unknown" = some (.ref (D 8))) (m9 : mg "Taken" = some (.ref (D 9))) (m10 : mg "WordError" = some (.ref (D 10))) : Errs K mg fW D := by
  have sT : ∀ i, i ≤ 10 → ∀ {T : String}, Value.type T ∈ four → PySem.W.subIn K (.ref (D i)) (.type T) = some true := fun i hi T h => by rw [(line i hi).sub, chain_ty h]
  have sB : ∀ i, i ≤ 10 → PySem.W.subIn K (.ref (D i)) (.type "BaseException") = some true := fun i hi => sT i hi (by decide)
  have sW : ∀ i, i ≤ 10 → PySem.W.subIn K (.ref (D i)) (.ref (D 10)) = some true := fun i hi => by rw [(line i hi).sub, chain_base hi]
  have sR : ∀ i j, i ≤ 10 → j ≤ 9 → PySem.W.subIn K (.ref (D i)) (.ref (D j)) = some (decide (i = j)) := fun i j hi hj => by rw [(line i hi).sub, chain_ref inj hi hj]
  exact {
    oex := fun i hi => by
      obtain ⟨nm, q, N, bs, sn, sub, ab, col, dd, k0, k1, k2, k3, k5, e⟩ := line i hi
      exact ⟨⟨nm, q, N, bs, _, sn, sub, ab, col, dd, k0, k1, k2, k3, k5, e, chain_ve⟩, sa i hi, sB i hi, (line i hi).ty, kC i hi⟩
    ini := ini, no := no, fn := fn
    xf := fun i hi => ⟨ga i hi, gg i hi, sB i hi, hd i hi⟩
    cl := fun i hi => ⟨(line i hi).cls, ga i hi, gg i hi, sB i hi, cl i hi, xn, xt, sT i hi (by decide)⟩
    kit := fun i j hi hj => (line j (by omega)).one (sR i j hi hj) fun z e => by
      injection e with e
      exact absurd (inj i j hi (by omega) e) (of_decide_eq_false z)
    kitV := fun i hi => by
      unfold PySem.W.kitOne
      rw [if_neg (by intro z; cases beq_iff_eq.mp z)]
      unfold PySem.W.kitCls
      have h : PySem.W.kitMeta "ValueError" = true := by decide +kernel
      show (if PySem.W.kitMeta "ValueError" = true then PySem.W.subIn K (.ref (D i)) (.type "ValueError") else none) = some true
      rw [if_pos h]
      exact sT i hi (by decide)
    kitW := fun i hi => (line 10 (Nat.le_refl _)).one (sW i hi) (fun z => nomatch z)
    exm := fun i hi => (line 10 (Nat.le_refl _)).exm (sW i hi) (sB 10 (Nat.le_refl _))
    exm6 := (line 6 (by decide)).exm (by rw [sR 6 6 (by decide) (by decide)]; rfl) (sB 6 (by decide))
    m0 := m0, m1 := m1, m2 := m2, m3 := m3, m4 := m4, m5 := m5, m6 := m6, m7 := m7, m8 := m8, m9 := m9, m10 := m10 }
end RX

set_option Elab.async false
set_option maxRecDepth 100000
namespace RX
open PySem L2 L2H XH

theorem all_mk {l : PySem.W.OpenLaw} {w : World} {K : PySem.W.Frag} {h : Heap} {mg : Str → Option Value} {fa C TT fI fOv fFe fDr fGr fPa fIs fSa fMk fDu fFr fRf fQu fRs fEr fEm fBn fL : Addr} (X : K.In h) (G : h.Ns mainGlobals mg) (hfa : mg "law" = some (.ref fa))
    {odT odI odOv odFe odDr odGr odPa odIs odSa odMk odDu odFr odRf odQu odRs odEr odEm odBn odL anI anOv anFe anDr anGr anPa anIs anSa anMk anDu anFr anRf anQu anRs anEr anEm anBn anL : Option Addr} {slT slI slOv slFe slDr slGr slPa slIs slSa slMk slDu slFr slRf slQu slRs slEr slEm slBn slL : Array (Option Value)} {ocT ocI kVI dcI pmI cdI ctI ocOv kVOv dcOv pmOv cdOv ctOv ocFe kVFe dcFe pmFe cdFe ctFe ocDr kVDr dcDr pmDr cdDr ctDr ocGr kVGr dcGr pmGr cdGr ctGr ocPa kVPa dcPa pmPa cdPa ctPa ocIs kVIs dcIs pmIs cdIs ctIs ocSa kVSa dcSa pmSa cdSa ctSa ocMk kVMk dcMk pmMk cdMk ctMk ocDu kVDu dcDu pmDu cdDu ctDu ocFr kVFr dcFr pmFr cdFr ctFr ocRf kVRf dcRf pmRf cdRf ctRf ocQu kVQu dcQu pmQu cdQu ctQu ocRs kVRs dcRs pmRs cdRs ctRs ocEr kVEr dcEr pmEr cdEr ctEr ocEm kVEm dcEm pmEm cdEm ctEm ocBn kVBn dcBn pmBn cdBn ctBn ocL kVL dcL pmL cdL ctL : Value} {tkT : Tok} {nT0 : Nat} {E0 E1 E2 E3 E4 E5 E6 E7 E8 E9 E10 fW TW : Addr} {ocW kVW dcW pmW cdW ctW ocU : Value} {odW anW odU : Option Addr} {slW slU : Array (Option Value)} {nU : Nat} {nm0 nm1 nm2 nm3 nm4 nm5 nm6 nm7 nm8 nm9 nm10 : Str} {q0 q1 q2 q3 q4 q5 q6 q7 q8 q9 q10 : Str} {N0 N1 N2 N3 N4 N5 N6 N7 N8 N9 N10 : Addr} {bs0 bs1 bs2 bs3 bs4 bs5 bs6 bs7 bs8 bs9 bs10 : List Value} {sn0 sn1 sn2 sn3 sn4 sn5 sn6 sn7 sn8 sn9 sn10 : List Str} {su0 su1 su2 su3 su4 su5 su6 su7 su8 su9 su10 : List Value} {ab0 ab1 ab2 ab3 ab4 ab5 ab6 ab7 ab8 ab9 ab10 : Bool} {co0 co1 co2 co3 co4 co5 co6 co7 co8 co9 co10 : Option Bool} {de0 de1 de2 de3 de4 de5 de6 de7 de8 de9 de10 : Option Addr} {ka0 ka1 ka2 ka3 ka4 ka5 ka6 ka7 ka8 ka9 ka10 : Option Value} {kb0 kb1 kb2 kb3 kb4 kb5 kb6 kb7 kb8 kb9 kb10 : Option Value} {kc0 kc1 kc2 kc3 kc4 kc5 kc6 kc7 kc8 kc9 kc10 : Option Value} {kd0 kd1 kd2 kd3 kd4 kd5 kd6 kd7 kd8 kd9 kd10 : Option Value} {ke0 ke1 ke2 ke3 ke4 ke5 ke6 ke7 ke8 ke9 ke10 : Option Value}
    (aC : PySem.W.nsIn K mainGlobals "Ratio" = some (some (.ref C)))
    (aG : PySem.W.nsIn K mainGlobals "gcd" = some (some (.builtin "math.gcd")))
    (aI : PySem.W.findIn K (.ref C) "__init__" = some (some (.ref fI)))
    (iI : PySem.W.isFn K (.ref fI) = true)
    (lI : K.lookup fI = some ⟨ocI, odI, .func (PySem.W.fnOf "__init__" "Ratio.__init__" (defArgs sInit) (defBody sInit) (defScope sInit) (.ref TT) kVI dcI pmI anI cdI ctI), slI⟩)
    (cI : PySem.W.codeIn K cdI "Ratio.__init__" = true)
    (kI : PySem.W.keepIn K (.ref fI) = true)
    (aOv : PySem.W.findIn K (.ref C) "over" = some (some (.ref fOv)))
    (iOv : PySem.W.isFn K (.ref fOv) = true)
    (lOv : K.lookup fOv = some ⟨ocOv, odOv, .func (PySem.W.fnOf "over" "Ratio.over" (defArgs sOver) (defBody sOver) (defScope sOver) .none kVOv dcOv pmOv anOv cdOv ctOv), slOv⟩)
    (cOv : PySem.W.codeIn K cdOv "Ratio.over" = true)
    (kOv : PySem.W.keepIn K (.ref fOv) = true)
    (lT : K.lookup TT = some ⟨ocT, odT, .seq #[.int 1 tkT] nT0, slT⟩)
    (aFe : PySem.W.nsIn K mainGlobals "_law_feed" = some (some (.ref fFe)))
    (lFe : K.lookup fFe = some ⟨ocFe, odFe, .func (PySem.W.fnOf "_law_feed" "_law_feed" (defArgs sFeed) (defBody sFeed) (defScope sFeed) .none kVFe dcFe pmFe anFe cdFe ctFe), slFe⟩)
    (cFe : PySem.W.codeIn K cdFe "_law_feed" = true)
    (kFe : PySem.W.keepIn K (.ref fFe) = true)
    (aDr : PySem.W.nsIn K mainGlobals "_law_draw" = some (some (.ref fDr)))
    (lDr : K.lookup fDr = some ⟨ocDr, odDr, .func (PySem.W.fnOf "_law_draw" "_law_draw" (defArgs sDraw) (defBody sDraw) (defScope sDraw) .none kVDr dcDr pmDr anDr cdDr ctDr), slDr⟩)
    (cDr : PySem.W.codeIn K cdDr "_law_draw" = true)
    (kDr : PySem.W.keepIn K (.ref fDr) = true)
    (aGr : PySem.W.nsIn K mainGlobals "_law_great" = some (some (.ref fGr)))
    (lGr : K.lookup fGr = some ⟨ocGr, odGr, .func (PySem.W.fnOf "_law_great" "_law_great" (defArgs sGreat) (defBody sGreat) (defScope sGreat) .none kVGr dcGr pmGr anGr cdGr ctGr), slGr⟩)
    (cGr : PySem.W.codeIn K cdGr "_law_great" = true)
    (kGr : PySem.W.keepIn K (.ref fGr) = true)
    (aPa : PySem.W.nsIn K mainGlobals "_law_pair" = some (some (.ref fPa)))
    (lPa : K.lookup fPa = some ⟨ocPa, odPa, .func (PySem.W.fnOf "_law_pair" "_law_pair" (defArgs sPair) (defBody sPair) (defScope sPair) .none kVPa dcPa pmPa anPa cdPa ctPa), slPa⟩)
    (cPa : PySem.W.codeIn K cdPa "_law_pair" = true)
    (kPa : PySem.W.keepIn K (.ref fPa) = true)
    (aIs : PySem.W.nsIn K mainGlobals "_law_is_integer" = some (some (.ref fIs)))
    (lIs : K.lookup fIs = some ⟨ocIs, odIs, .func (PySem.W.fnOf "_law_is_integer" "_law_is_integer" (defArgs sIsInt) (defBody sIsInt) (defScope sIsInt) .none kVIs dcIs pmIs anIs cdIs ctIs), slIs⟩)
    (cIs : PySem.W.codeIn K cdIs "_law_is_integer" = true)
    (kIs : PySem.W.keepIn K (.ref fIs) = true)
    (aSa : PySem.W.nsIn K mainGlobals "_law_same" = some (some (.ref fSa)))
    (lSa : K.lookup fSa = some ⟨ocSa, odSa, .func (PySem.W.fnOf "_law_same" "_law_same" (defArgs sSame) (defBody sSame) (defScope sSame) .none kVSa dcSa pmSa anSa cdSa ctSa), slSa⟩)
    (cSa : PySem.W.codeIn K cdSa "_law_same" = true)
    (kSa : PySem.W.keepIn K (.ref fSa) = true)
    (aMk : PySem.W.nsIn K mainGlobals "_law_marks" = some (some (.ref fMk)))
    (lMk : K.lookup fMk = some ⟨ocMk, odMk, .func (PySem.W.fnOf "_law_marks" "_law_marks" (defArgs sMarks) (defBody sMarks) (defScope sMarks) .none kVMk dcMk pmMk anMk cdMk ctMk), slMk⟩)
    (cMk : PySem.W.codeIn K cdMk "_law_marks" = true)
    (kMk : PySem.W.keepIn K (.ref fMk) = true)
    (aDu : PySem.W.nsIn K mainGlobals "_law_due_marks" = some (some (.ref fDu)))
    (lDu : K.lookup fDu = some ⟨ocDu, odDu, .func (PySem.W.fnOf "_law_due_marks" "_law_due_marks" (defArgs sDue) (defBody sDue) (defScope sDue) .none kVDu dcDu pmDu anDu cdDu ctDu), slDu⟩)
    (cDu : PySem.W.codeIn K cdDu "_law_due_marks" = true)
    (kDu : PySem.W.keepIn K (.ref fDu) = true)
    (aFr : PySem.W.nsIn K mainGlobals "_law_fraction" = some (some (.ref fFr)))
    (lFr : K.lookup fFr = some ⟨ocFr, odFr, .func (PySem.W.fnOf "_law_fraction" "_law_fraction" (defArgs sFrac) (defBody sFrac) (defScope sFrac) .none kVFr dcFr pmFr anFr cdFr ctFr), slFr⟩)
    (cFr : PySem.W.codeIn K cdFr "_law_fraction" = true)
    (kFr : PySem.W.keepIn K (.ref fFr) = true)
    (aRf : PySem.W.nsIn K mainGlobals "_law_refused" = some (some (.ref fRf)))
    (lRf : K.lookup fRf = some ⟨ocRf, odRf, .func (PySem.W.fnOf "_law_refused" "_law_refused" (defArgs sRefused) (defBody sRefused) (defScope sRefused) .none kVRf dcRf pmRf anRf cdRf ctRf), slRf⟩)
    (cRf : PySem.W.codeIn K cdRf "_law_refused" = true)
    (kRf : PySem.W.keepIn K (.ref fRf) = true)
    (aQu : PySem.W.nsIn K mainGlobals "_law_quotient" = some (some (.ref fQu)))
    (lQu : K.lookup fQu = some ⟨ocQu, odQu, .func (PySem.W.fnOf "_law_quotient" "_law_quotient" (defArgs sQuot) (defBody sQuot) (defScope sQuot) .none kVQu dcQu pmQu anQu cdQu ctQu), slQu⟩)
    (cQu : PySem.W.codeIn K cdQu "_law_quotient" = true)
    (kQu : PySem.W.keepIn K (.ref fQu) = true)
    (aRs : PySem.W.nsIn K mainGlobals "_law_raise_one" = some (some (.ref fRs)))
    (lRs : K.lookup fRs = some ⟨ocRs, odRs, .func (PySem.W.fnOf "_law_raise_one" "_law_raise_one" (defArgs sRaise) (defBody sRaise) (defScope sRaise) .none kVRs dcRs pmRs anRs cdRs ctRs), slRs⟩)
    (cRs : PySem.W.codeIn K cdRs "_law_raise_one" = true)
    (kRs : PySem.W.keepIn K (.ref fRs) = true)
    (aEr : PySem.W.nsIn K mainGlobals "_law_error" = some (some (.ref fEr)))
    (lEr : K.lookup fEr = some ⟨ocEr, odEr, .func (PySem.W.fnOf "_law_error" "_law_error" (defArgs sErr) (defBody sErr) (defScope sErr) .none kVEr dcEr pmEr anEr cdEr ctEr), slEr⟩)
    (cEr : PySem.W.codeIn K cdEr "_law_error" = true)
    (kEr : PySem.W.keepIn K (.ref fEr) = true)
    (aEm : PySem.W.nsIn K mainGlobals "_law_empty" = some (some (.ref fEm)))
    (lEm : K.lookup fEm = some ⟨ocEm, odEm, .func (PySem.W.fnOf "_law_empty" "_law_empty" (defArgs sEmpty) (defBody sEmpty) (defScope sEmpty) .none kVEm dcEm pmEm anEm cdEm ctEm), slEm⟩)
    (cEm : PySem.W.codeIn K cdEm "_law_empty" = true)
    (kEm : PySem.W.keepIn K (.ref fEm) = true)
    (aBn : PySem.W.nsIn K mainGlobals "_law_by_name" = some (some (.ref fBn)))
    (lBn : K.lookup fBn = some ⟨ocBn, odBn, .func (PySem.W.fnOf "_law_by_name" "_law_by_name" (defArgs sByName) (defBody sByName) (defScope sByName) .none kVBn dcBn pmBn anBn cdBn ctBn), slBn⟩)
    (cBn : PySem.W.codeIn K cdBn "_law_by_name" = true)
    (kBn : PySem.W.keepIn K (.ref fBn) = true)
    (aL : PySem.W.nsIn K mainGlobals "law" = some (some (.ref fL)))
    (lL : K.lookup fL = some ⟨ocL, odL, .func (PySem.W.fnOf "law" "law" (defArgs sLaw) (defBody sLaw) (defScope sLaw) .none kVL dcL pmL anL cdL ctL), slL⟩)
    (cL : PySem.W.codeIn K cdL "law" = true)
    (kL : PySem.W.keepIn K (.ref fL) = true)
    (pg : PySem.W.plainGet K C Str.empty = true)
    (hd : PySem.W.hasDictIn K C = true)
    (po : PySem.W.plainOver K C = true)
    (sa : PySem.W.findIn K (.ref C) "__setattr__" = some (some (.builtin "object.__setattr__")))
    (mk : PySem.W.makesIn K C = true)
    (kc : PySem.W.keepIn K (.ref C) = true)
    (nT : PySem.W.findIn K (.ref C) "top" = some none)
    (nB : PySem.W.findIn K (.ref C) "bottom" = some none)
    (xa : PySem.W.findIn K (.ref C) "__class__" = some (some (.builtin "object.__class__")))
    (xn : PySem.W.specialIn K (.builtin "object.__class__") "__get__" = some (some (.builtin "getset_descriptor.__get__")))
    (xt : PySem.W.takesIn K (.builtin "object.__class__") = some true)
    (xm : PySem.W.mroIn K C (.type "object") = some true)
    (aE10 : PySem.W.nsIn K mainGlobals "WordError" = some (some (.ref E10)))
    (xE10 : K.lookup E10 = some (excClassObj nm10 q10 E10 N10 bs10 [.type "ValueError", .type "Exception", .type "BaseException", .type "object"] true sn10 su10 ab10 co10 de10 ka10 kb10 kc10 kd10 ke10 "ValueError.__new__"))
    (sE10 : PySem.W.findIn K (.ref E10) "__setattr__" = some (some (.builtin "object.__setattr__")))
    (kE10 : PySem.W.keepIn K (.ref E10) = true)
    (iE10 : PySem.W.findIn K (.ref E10) "__init__" = some (some (.ref fW)))
    (nE10 : PySem.W.findIn K (.ref E10) "what" = some none)
    (gE10 : PySem.W.findIn K (.ref E10) "__getattribute__" = some (some (.builtin "BaseException.__getattribute__")))
    (hE10 : PySem.W.findIn K (.ref E10) "__getattr__" = some none)
    (dE10 : PySem.W.hasDictIn K E10 = true)
    (cE10 : PySem.W.findIn K (.ref E10) "__class__" = some (some (.builtin "object.__class__")))
    (aE0 : PySem.W.nsIn K mainGlobals "BadNumber" = some (some (.ref E0)))
    (xE0 : K.lookup E0 = some (excClassObj nm0 q0 E0 N0 bs0 [.ref E10, .type "ValueError", .type "Exception", .type "BaseException", .type "object"] true sn0 su0 ab0 co0 de0 ka0 kb0 kc0 kd0 ke0 "ValueError.__new__"))
    (sE0 : PySem.W.findIn K (.ref E0) "__setattr__" = some (some (.builtin "object.__setattr__")))
    (kE0 : PySem.W.keepIn K (.ref E0) = true)
    (iE0 : PySem.W.findIn K (.ref E0) "__init__" = some (some (.ref fW)))
    (nE0 : PySem.W.findIn K (.ref E0) "what" = some none)
    (gE0 : PySem.W.findIn K (.ref E0) "__getattribute__" = some (some (.builtin "BaseException.__getattribute__")))
    (hE0 : PySem.W.findIn K (.ref E0) "__getattr__" = some none)
    (dE0 : PySem.W.hasDictIn K E0 = true)
    (cE0 : PySem.W.findIn K (.ref E0) "__class__" = some (some (.builtin "object.__class__")))
    (aE1 : PySem.W.nsIn K mainGlobals "BadMachine" = some (some (.ref E1)))
    (xE1 : K.lookup E1 = some (excClassObj nm1 q1 E1 N1 bs1 [.ref E10, .type "ValueError", .type "Exception", .type "BaseException", .type "object"] true sn1 su1 ab1 co1 de1 ka1 kb1 kc1 kd1 ke1 "ValueError.__new__"))
    (sE1 : PySem.W.findIn K (.ref E1) "__setattr__" = some (some (.builtin "object.__setattr__")))
    (kE1 : PySem.W.keepIn K (.ref E1) = true)
    (iE1 : PySem.W.findIn K (.ref E1) "__init__" = some (some (.ref fW)))
    (nE1 : PySem.W.findIn K (.ref E1) "what" = some none)
    (gE1 : PySem.W.findIn K (.ref E1) "__getattribute__" = some (some (.builtin "BaseException.__getattribute__")))
    (hE1 : PySem.W.findIn K (.ref E1) "__getattr__" = some none)
    (dE1 : PySem.W.hasDictIn K E1 = true)
    (cE1 : PySem.W.findIn K (.ref E1) "__class__" = some (some (.builtin "object.__class__")))
    (aE2 : PySem.W.nsIn K mainGlobals "BadWord" = some (some (.ref E2)))
    (xE2 : K.lookup E2 = some (excClassObj nm2 q2 E2 N2 bs2 [.ref E10, .type "ValueError", .type "Exception", .type "BaseException", .type "object"] true sn2 su2 ab2 co2 de2 ka2 kb2 kc2 kd2 ke2 "ValueError.__new__"))
    (sE2 : PySem.W.findIn K (.ref E2) "__setattr__" = some (some (.builtin "object.__setattr__")))
    (kE2 : PySem.W.keepIn K (.ref E2) = true)
    (iE2 : PySem.W.findIn K (.ref E2) "__init__" = some (some (.ref fW)))
    (nE2 : PySem.W.findIn K (.ref E2) "what" = some none)
    (gE2 : PySem.W.findIn K (.ref E2) "__getattribute__" = some (some (.builtin "BaseException.__getattribute__")))
    (hE2 : PySem.W.findIn K (.ref E2) "__getattr__" = some none)
    (dE2 : PySem.W.hasDictIn K E2 = true)
    (cE2 : PySem.W.findIn K (.ref E2) "__class__" = some (some (.builtin "object.__class__")))
    (aE3 : PySem.W.nsIn K mainGlobals "BadStar" = some (some (.ref E3)))
    (xE3 : K.lookup E3 = some (excClassObj nm3 q3 E3 N3 bs3 [.ref E10, .type "ValueError", .type "Exception", .type "BaseException", .type "object"] true sn3 su3 ab3 co3 de3 ka3 kb3 kc3 kd3 ke3 "ValueError.__new__"))
    (sE3 : PySem.W.findIn K (.ref E3) "__setattr__" = some (some (.builtin "object.__setattr__")))
    (kE3 : PySem.W.keepIn K (.ref E3) = true)
    (iE3 : PySem.W.findIn K (.ref E3) "__init__" = some (some (.ref fW)))
    (nE3 : PySem.W.findIn K (.ref E3) "what" = some none)
    (gE3 : PySem.W.findIn K (.ref E3) "__getattribute__" = some (some (.builtin "BaseException.__getattribute__")))
    (hE3 : PySem.W.findIn K (.ref E3) "__getattr__" = some none)
    (dE3 : PySem.W.hasDictIn K E3 = true)
    (cE3 : PySem.W.findIn K (.ref E3) "__class__" = some (some (.builtin "object.__class__")))
    (aE4 : PySem.W.nsIn K mainGlobals "BadText" = some (some (.ref E4)))
    (xE4 : K.lookup E4 = some (excClassObj nm4 q4 E4 N4 bs4 [.ref E10, .type "ValueError", .type "Exception", .type "BaseException", .type "object"] true sn4 su4 ab4 co4 de4 ka4 kb4 kc4 kd4 ke4 "ValueError.__new__"))
    (sE4 : PySem.W.findIn K (.ref E4) "__setattr__" = some (some (.builtin "object.__setattr__")))
    (kE4 : PySem.W.keepIn K (.ref E4) = true)
    (iE4 : PySem.W.findIn K (.ref E4) "__init__" = some (some (.ref fW)))
    (nE4 : PySem.W.findIn K (.ref E4) "what" = some none)
    (gE4 : PySem.W.findIn K (.ref E4) "__getattribute__" = some (some (.builtin "BaseException.__getattribute__")))
    (hE4 : PySem.W.findIn K (.ref E4) "__getattr__" = some none)
    (dE4 : PySem.W.hasDictIn K E4 = true)
    (cE4 : PySem.W.findIn K (.ref E4) "__class__" = some (some (.builtin "object.__class__")))
    (aE5 : PySem.W.nsIn K mainGlobals "BadPaper" = some (some (.ref E5)))
    (xE5 : K.lookup E5 = some (excClassObj nm5 q5 E5 N5 bs5 [.ref E10, .type "ValueError", .type "Exception", .type "BaseException", .type "object"] true sn5 su5 ab5 co5 de5 ka5 kb5 kc5 kd5 ke5 "ValueError.__new__"))
    (sE5 : PySem.W.findIn K (.ref E5) "__setattr__" = some (some (.builtin "object.__setattr__")))
    (kE5 : PySem.W.keepIn K (.ref E5) = true)
    (iE5 : PySem.W.findIn K (.ref E5) "__init__" = some (some (.ref fW)))
    (nE5 : PySem.W.findIn K (.ref E5) "what" = some none)
    (gE5 : PySem.W.findIn K (.ref E5) "__getattribute__" = some (some (.builtin "BaseException.__getattribute__")))
    (hE5 : PySem.W.findIn K (.ref E5) "__getattr__" = some none)
    (dE5 : PySem.W.hasDictIn K E5 = true)
    (cE5 : PySem.W.findIn K (.ref E5) "__class__" = some (some (.builtin "object.__class__")))
    (aE6 : PySem.W.nsIn K mainGlobals "BadDeed" = some (some (.ref E6)))
    (xE6 : K.lookup E6 = some (excClassObj nm6 q6 E6 N6 bs6 [.ref E10, .type "ValueError", .type "Exception", .type "BaseException", .type "object"] true sn6 su6 ab6 co6 de6 ka6 kb6 kc6 kd6 ke6 "ValueError.__new__"))
    (sE6 : PySem.W.findIn K (.ref E6) "__setattr__" = some (some (.builtin "object.__setattr__")))
    (kE6 : PySem.W.keepIn K (.ref E6) = true)
    (iE6 : PySem.W.findIn K (.ref E6) "__init__" = some (some (.ref fW)))
    (nE6 : PySem.W.findIn K (.ref E6) "what" = some none)
    (gE6 : PySem.W.findIn K (.ref E6) "__getattribute__" = some (some (.builtin "BaseException.__getattribute__")))
    (hE6 : PySem.W.findIn K (.ref E6) "__getattr__" = some none)
    (dE6 : PySem.W.hasDictIn K E6 = true)
    (cE6 : PySem.W.findIn K (.ref E6) "__class__" = some (some (.builtin "object.__class__")))
    (aE7 : PySem.W.nsIn K mainGlobals "TooMany" = some (some (.ref E7)))
    (xE7 : K.lookup E7 = some (excClassObj nm7 q7 E7 N7 bs7 [.ref E10, .type "ValueError", .type "Exception", .type "BaseException", .type "object"] true sn7 su7 ab7 co7 de7 ka7 kb7 kc7 kd7 ke7 "ValueError.__new__"))
    (sE7 : PySem.W.findIn K (.ref E7) "__setattr__" = some (some (.builtin "object.__setattr__")))
    (kE7 : PySem.W.keepIn K (.ref E7) = true)
    (iE7 : PySem.W.findIn K (.ref E7) "__init__" = some (some (.ref fW)))
    (nE7 : PySem.W.findIn K (.ref E7) "what" = some none)
    (gE7 : PySem.W.findIn K (.ref E7) "__getattribute__" = some (some (.builtin "BaseException.__getattribute__")))
    (hE7 : PySem.W.findIn K (.ref E7) "__getattr__" = some none)
    (dE7 : PySem.W.hasDictIn K E7 = true)
    (cE7 : PySem.W.findIn K (.ref E7) "__class__" = some (some (.builtin "object.__class__")))
    (aE8 : PySem.W.nsIn K mainGlobals "Unknown" = some (some (.ref E8)))
    (xE8 : K.lookup E8 = some (excClassObj nm8 q8 E8 N8 bs8 [.ref E10, .type "ValueError", .type "Exception", .type "BaseException", .type "object"] true sn8 su8 ab8 co8 de8 ka8 kb8 kc8 kd8 ke8 "ValueError.__new__"))
    (sE8 : PySem.W.findIn K (.ref E8) "__setattr__" = some (some (.builtin "object.__setattr__")))
    (kE8 : PySem.W.keepIn K (.ref E8) = true)
    (iE8 : PySem.W.findIn K (.ref E8) "__init__" = some (some (.ref fW)))
    (nE8 : PySem.W.findIn K (.ref E8) "what" = some none)
    (gE8 : PySem.W.findIn K (.ref E8) "__getattribute__" = some (some (.builtin "BaseException.__getattribute__")))
    (hE8 : PySem.W.findIn K (.ref E8) "__getattr__" = some none)
    (dE8 : PySem.W.hasDictIn K E8 = true)
    (cE8 : PySem.W.findIn K (.ref E8) "__class__" = some (some (.builtin "object.__class__")))
    (aE9 : PySem.W.nsIn K mainGlobals "Taken" = some (some (.ref E9)))
    (xE9 : K.lookup E9 = some (excClassObj nm9 q9 E9 N9 bs9 [.ref E10, .type "ValueError", .type "Exception", .type "BaseException", .type "object"] true sn9 su9 ab9 co9 de9 ka9 kb9 kc9 kd9 ke9 "ValueError.__new__"))
    (sE9 : PySem.W.findIn K (.ref E9) "__setattr__" = some (some (.builtin "object.__setattr__")))
    (kE9 : PySem.W.keepIn K (.ref E9) = true)
    (iE9 : PySem.W.findIn K (.ref E9) "__init__" = some (some (.ref fW)))
    (nE9 : PySem.W.findIn K (.ref E9) "what" = some none)
    (gE9 : PySem.W.findIn K (.ref E9) "__getattribute__" = some (some (.builtin "BaseException.__getattribute__")))
    (hE9 : PySem.W.findIn K (.ref E9) "__getattr__" = some none)
    (dE9 : PySem.W.hasDictIn K E9 = true)
    (cE9 : PySem.W.findIn K (.ref E9) "__class__" = some (some (.builtin "object.__class__")))
    (tW : PySem.W.typeIn K (.ref fW) = some (.type "function"))
    (lW : K.lookup fW = some ⟨ocW, odW, .func (PySem.W.fnOf "__init__" "WordError.__init__" (defArgs sWi) (defBody sWi) (defScope sWi) (.ref TW) kVW dcW pmW anW cdW ctW), slW⟩)
    (cW : PySem.W.codeIn K cdW "WordError.__init__" = true)
    (kW : PySem.W.keepIn K (.ref fW) = true)
    (lTW : K.lookup TW = some ⟨ocU, odU, .seq #[.none] nU, slU⟩)
    (nd : ([E0, E1, E2, E3, E4, E5, E6, E7, E8, E9, E10] : List Addr).Nodup)
    (z_abs : PySem.W.nsIn K mainGlobals "abs" = some none)
    (z_len : PySem.W.nsIn K mainGlobals "len" = some none)
    (z_int : PySem.W.nsIn K mainGlobals "int" = some none)
    (z_max : PySem.W.nsIn K mainGlobals "max" = some none)
    (z_range : PySem.W.nsIn K mainGlobals "range" = some none)
    (z_isinstance : PySem.W.nsIn K mainGlobals "isinstance" = some none)
    (z_bool : PySem.W.nsIn K mainGlobals "bool" = some none)
    (z_str : PySem.W.nsIn K mainGlobals "str" = some none)
    (z_ValueError : PySem.W.nsIn K mainGlobals "ValueError" = some none)
    : ∃ fd : FuncData, (∀ (s : Shared) (v : Value), BindsTo s fd ⟨[v], []⟩ [("script", v)]) ∧ ∀ base : Heap, K.In base → base.Ns mainGlobals mg → FnOk l.prog w K mg base CX0 7 fa fd ["script"] (spLaw K) := by
  have e := hfa.symm.trans (PySem.W.mg_of X G aL)
  cases e
  have T : TxtL mg := ⟨PySem.W.mg_none_of X G z_abs, PySem.W.mg_none_of X G z_len, PySem.W.mg_none_of X G z_int, PySem.W.mg_none_of X G z_max, PySem.W.mg_none_of X G z_range, PySem.W.mg_none_of X G z_isinstance, PySem.W.mg_none_of X G z_bool⟩
  have TR : TxtR K mg C := ⟨⟨pg, hd, po, sa⟩, nT, nB, PySem.W.mg_of X G aC, PySem.W.mg_of X G aG⟩
  have xe : PySem.W.kitOne K (.ref C) (.ref C) = some true := by
    unfold PySem.W.kitOne
    rw [if_pos (beq_self_eq_true _)]
  have IC : C8.InsC K C := ⟨⟨pg, hd, po, sa⟩, xa, xn, xt, xm, xe⟩
  obtain ⟨fdI, FI⟩ : ∃ fd, FunD K "__init__" "Ratio.__init__" (defArgs sInit) (defBody sInit) (defScope sInit) [.int 1] [] fI fd := ⟨_, ⟨ocI, odI, .ref TT, kVI, dcI, pmI, anI, cdI, ctI, slI, rfl, lI, cI, .inr ⟨(fun z => nomatch z), TT, _, [.int 1 tkT], nT0, rfl, lT, rfl, .cons ⟨tkT, rfl⟩ .nil⟩, .inl rfl⟩, kI⟩
  have bI : Binds K fdI ["self", "top", "bottom"] [] := by
    obtain ⟨ds, v, b⟩ := FI.binds1 (ps := ["self", "top", "bottom"]) 3 1 (fun z => nomatch z) rfl fun T kV doc pm an cdv ct us its hu hi => match us, its, hu, hi with | [_, _, _], [_], _, _ => ⟨_, rfl, rfl⟩
    cases v
    exact b
  have bI1 : ∃ ds, Vals [V.int 1] ds ∧ Binds K fdI ["self", "top", "bottom"] ds := FI.binds1 (ps := ["self", "top", "bottom"]) 2 0 (fun z => nomatch z) rfl fun T kV doc pm an cdv ct us its hu hi => match us, its, hu, hi with | [_, _], [_], _, _ => ⟨_, rfl, rfl⟩
  have bIk : ∃ its : List Value, KBn K fdI ["self", "top", "bottom"] 2 ["bottom"] (fun us ws => us ++ ws) (fun vs zs => vs ++ zs) := FI.kbindsD (ps := ["self", "top", "bottom"]) 2 ["bottom"] (fun us _ ws => us ++ ws) (fun z => nomatch z) (fun r1 _ r3 => r1.append r3) fun T kV doc pm an cdv ct us its ws hu hi hw => match us, its, ws, hu, hi, hw with | [_, _], [_], [_], _, _, _ => ⟨_, rfl, rfl⟩
  have FOv := fun_mk (st := sOver) lOv cOv kOv
  have bOv := FOv.binds (ps := ["self", "other"]) fun _ _ _ _ _ _ us hl => match us, hl with | [_, _], _ => rfl
  have FFe := fun_mk (st := sFeed) lFe cFe kFe
  have bFe := FFe.binds (ps := ["script"]) fun _ _ _ _ _ _ us hl => match us, hl with | [_], _ => rfl
  have mFe := PySem.W.mg_of X G aFe
  have FDr := fun_mk (st := sDraw) lDr cDr kDr
  have bDr := FDr.binds (ps := ["feed", "limit"]) fun _ _ _ _ _ _ us hl => match us, hl with | [_, _], _ => rfl
  have mDr := PySem.W.mg_of X G aDr
  have FGr := fun_mk (st := sGreat) lGr cGr kGr
  have bGr := FGr.binds (ps := ["feed", "parts"]) fun _ _ _ _ _ _ us hl => match us, hl with | [_, _], _ => rfl
  have mGr := PySem.W.mg_of X G aGr
  have FPa := fun_mk (st := sPair) lPa cPa kPa
  have bPa := FPa.binds (ps := ["above", "below"]) fun _ _ _ _ _ _ us hl => match us, hl with | [_, _], _ => rfl
  have mPa := PySem.W.mg_of X G aPa
  have FIs := fun_mk (st := sIsInt) lIs cIs kIs
  have bIs := FIs.binds (ps := ["actual"]) fun _ _ _ _ _ _ us hl => match us, hl with | [_], _ => rfl
  have mIs := PySem.W.mg_of X G aIs
  have FSa := fun_mk (st := sSame) lSa cSa kSa
  have bSa := FSa.binds (ps := ["actual", "due"]) fun _ _ _ _ _ _ us hl => match us, hl with | [_, _], _ => rfl
  have mSa := PySem.W.mg_of X G aSa
  have FMk := fun_mk (st := sMarks) lMk cMk kMk
  have bMk := FMk.binds (ps := ["e"]) fun _ _ _ _ _ _ us hl => match us, hl with | [_], _ => rfl
  have mMk := PySem.W.mg_of X G aMk
  have FDu := fun_mk (st := sDue) lDu cDu kDu
  have bDu := FDu.binds (ps := ["k"]) fun _ _ _ _ _ _ us hl => match us, hl with | [_], _ => rfl
  have mDu := PySem.W.mg_of X G aDu
  have FFr := fun_mk (st := sFrac) lFr cFr kFr
  have bFr := FFr.binds (ps := ["feed", "parts"]) fun _ _ _ _ _ _ us hl => match us, hl with | [_, _], _ => rfl
  have mFr := PySem.W.mg_of X G aFr
  have FRf := fun_mk (st := sRefused) lRf cRf kRf
  have bRf := FRf.binds (ps := ["above"]) fun _ _ _ _ _ _ us hl => match us, hl with | [_], _ => rfl
  have mRf := PySem.W.mg_of X G aRf
  have FQu := fun_mk (st := sQuot) lQu cQu kQu
  have bQu := FQu.binds (ps := ["one", "two"]) fun _ _ _ _ _ _ us hl => match us, hl with | [_, _], _ => rfl
  have mQu := PySem.W.mg_of X G aQu
  have FRs := fun_mk (st := sRaise) lRs cRs kRs
  have bRs := FRs.binds (ps := ["k", "thing"]) fun _ _ _ _ _ _ us hl => match us, hl with | [_, _], _ => rfl
  have mRs := PySem.W.mg_of X G aRs
  have FEr := fun_mk (st := sErr) lEr cEr kEr
  have bEr := FEr.binds (ps := ["k", "thing"]) fun _ _ _ _ _ _ us hl => match us, hl with | [_, _], _ => rfl
  have mEr := PySem.W.mg_of X G aEr
  have FEm := fun_mk (st := sEmpty) lEm cEm kEm
  have bEm := FEm.binds (ps := []) fun _ _ _ _ _ _ us hl => match us, hl with | [], _ => rfl
  have mEm := PySem.W.mg_of X G aEm
  have FBn := fun_mk (st := sByName) lBn cBn kBn
  have bBn := FBn.binds (ps := ["thing"]) fun _ _ _ _ _ _ us hl => match us, hl with | [_], _ => rfl
  have mBn := PySem.W.mg_of X G aBn
  refine ⟨PySem.W.fnOf "law" "law" (defArgs sLaw) (defBody sLaw) (defScope sLaw) .none kVL dcL pmL anL cdL ctL, fun s v => .of_eq rfl, fun base _ _ => ?_⟩
  have M : Mk K C fI := ⟨mk, aI, iI, kc⟩
  have GI := ok_init (P := l.prog) (w := w) (base := base) FI TR
  have R : Errs K mg fW (fun i => ([E0, E1, E2, E3, E4, E5, E6, E7, E8, E9, E10] : List Addr).getD i 0) := errs_of (inj_of nd rfl) (XE.upto10 (p := fun i => XE.Line K (([E0, E1, E2, E3, E4, E5, E6, E7, E8, E9, E10] : List Addr).getD i 0) (XE.chain (fun i => ([E0, E1, E2, E3, E4, E5, E6, E7, E8, E9, E10] : List Addr).getD i 0) i)) ⟨_, _, _, _, _, _, _, _, _, _, _, _, _, _, xE0⟩ ⟨_, _, _, _, _, _, _, _, _, _, _, _, _, _, xE1⟩ ⟨_, _, _, _, _, _, _, _, _, _, _, _, _, _, xE2⟩ ⟨_, _, _, _, _, _, _, _, _, _, _, _, _, _, xE3⟩ ⟨_, _, _, _, _, _, _, _, _, _, _, _, _, _, xE4⟩ ⟨_, _, _, _, _, _, _, _, _, _, _, _, _, _, xE5⟩ ⟨_, _, _, _, _, _, _, _, _, _, _, _, _, _, xE6⟩ ⟨_, _, _, _, _, _, _, _, _, _, _, _, _, _, xE7⟩ ⟨_, _, _, _, _, _, _, _, _, _, _, _, _, _, xE8⟩ ⟨_, _, _, _, _, _, _, _, _, _, _, _, _, _, xE9⟩ ⟨_, _, _, _, _, _, _, _, _, _, _, _, _, _, xE10⟩)
    (XE.upto10 (p := fun i => PySem.W.findIn K (.ref (([E0, E1, E2, E3, E4, E5, E6, E7, E8, E9, E10] : List Addr).getD i 0)) "__setattr__" = some (some (.builtin "object.__setattr__"))) sE0 sE1 sE2 sE3 sE4 sE5 sE6 sE7 sE8 sE9 sE10)
    (XE.upto10 (p := fun i => PySem.W.keepIn K (.ref (([E0, E1, E2, E3, E4, E5, E6, E7, E8, E9, E10] : List Addr).getD i 0)) = true) kE0 kE1 kE2 kE3 kE4 kE5 kE6 kE7 kE8 kE9 kE10)
    (XE.upto10 (p := fun i => PySem.W.findIn K (.ref (([E0, E1, E2, E3, E4, E5, E6, E7, E8, E9, E10] : List Addr).getD i 0)) "__init__" = some (some (.ref fW))) iE0 iE1 iE2 iE3 iE4 iE5 iE6 iE7 iE8 iE9 iE10)
    (XE.upto10 (p := fun i => PySem.W.findIn K (.ref (([E0, E1, E2, E3, E4, E5, E6, E7, E8, E9, E10] : List Addr).getD i 0)) "what" = some none) nE0 nE1 nE2 nE3 nE4 nE5 nE6 nE7 nE8 nE9 nE10) tW
    (XE.upto10 (p := fun i => PySem.W.findIn K (.ref (([E0, E1, E2, E3, E4, E5, E6, E7, E8, E9, E10] : List Addr).getD i 0)) "__getattribute__" = some (some (.builtin "BaseException.__getattribute__"))) gE0 gE1 gE2 gE3 gE4 gE5 gE6 gE7 gE8 gE9 gE10)
    (XE.upto10 (p := fun i => PySem.W.findIn K (.ref (([E0, E1, E2, E3, E4, E5, E6, E7, E8, E9, E10] : List Addr).getD i 0)) "__getattr__" = some none) hE0 hE1 hE2 hE3 hE4 hE5 hE6 hE7 hE8 hE9 hE10)
    (XE.upto10 (p := fun i => PySem.W.hasDictIn K (([E0, E1, E2, E3, E4, E5, E6, E7, E8, E9, E10] : List Addr).getD i 0) = true) dE0 dE1 dE2 dE3 dE4 dE5 dE6 dE7 dE8 dE9 dE10)
    (XE.upto10 (p := fun i => PySem.W.findIn K (.ref (([E0, E1, E2, E3, E4, E5, E6, E7, E8, E9, E10] : List Addr).getD i 0)) "__class__" = some (some (.builtin "object.__class__"))) cE0 cE1 cE2 cE3 cE4 cE5 cE6 cE7 cE8 cE9 cE10) xn xt
    (PySem.W.mg_of X G aE0) (PySem.W.mg_of X G aE1) (PySem.W.mg_of X G aE2) (PySem.W.mg_of X G aE3) (PySem.W.mg_of X G aE4) (PySem.W.mg_of X G aE5) (PySem.W.mg_of X G aE6) (PySem.W.mg_of X G aE7) (PySem.W.mg_of X G aE8) (PySem.W.mg_of X G aE9) (PySem.W.mg_of X G aE10)
  obtain ⟨fdW, FW⟩ : ∃ fd, FunD K "__init__" "WordError.__init__" (defArgs sWi) (defBody sWi) (defScope sWi) [.non] [] fW fd := ⟨_, ⟨ocW, odW, .ref TW, kVW, dcW, pmW, anW, cdW, ctW, slW, rfl, lW, cW, .inr ⟨(fun z => nomatch z), TW, _, [.none], nU, rfl, lTW, rfl, .cons rfl .nil⟩, .inl rfl⟩, kW⟩
  have bW : Binds K fdW ["self", "what"] [] := by
    obtain ⟨ds, v, b⟩ := FW.binds1 (ps := ["self", "what"]) 2 1 (fun z => nomatch z) rfl fun T kV doc pm an cdv ct us its hu hi => match us, its, hu, hi with | [_, _], [_], _, _ => ⟨_, rfl, rfl⟩
    cases v
    exact b
  have bW1 : ∃ ds, Vals [V.non] ds ∧ Binds K fdW ["self", "what"] ds := FW.binds1 (ps := ["self", "what"]) 1 0 (fun z => nomatch z) rfl fun T kV doc pm an cdv ct us its hu hi => match us, its, hu, hi with | [_], [_], _, _ => ⟨_, rfl, rfl⟩
  have bWk : ∃ its : List Value, KBn K fdW ["self", "what"] 1 ["what"] (fun us ws => us ++ ws) (fun vs zs => vs ++ zs) := FW.kbindsD (ps := ["self", "what"]) 1 ["what"] (fun us _ ws => us ++ ws) (fun z => nomatch z) (fun r1 _ r3 => r1.append r3) fun T kV doc pm an cdv ct us its ws hu hi hw => match us, its, ws, hu, hi, hw with | [_], [_], [_], _, _, _ => ⟨_, rfl, rfl⟩
  have ms := PySem.W.mg_none_of X G z_str
  have mv := PySem.W.mg_none_of X G z_ValueError
  have GW := ok_W (P := l.prog) (w := w) (mg := mg) (base := base) FW
  have GIX := ok_initX (P := l.prog) (w := w) (base := base) FI TR R GW bW1
  have GO := ok_overX (P := l.prog) (w := w) (base := base) FOv TR M GIX bI
  have mO : Meth K C "over" fOv := ⟨aOv, iOv, kOv⟩
  have gMk : CalP l.prog w K mg base "_law_marks" 1 ["e"] (spMarks (fun i => ([E0, E1, E2, E3, E4, E5, E6, E7, E8, E9, E10] : List Addr).getD i 0)) fMk _ := ⟨ok_marks FMk T R mv, mMk, kMk, bMk⟩
  have gDu : CalP l.prog w K mg base "_law_due_marks" 1 ["k"] spDue fDu _ := ⟨ok_due FDu T, mDu, kDu, bDu⟩
  have gFe : CalN l.prog w K mg base "_law_feed" 1 ["script"] (spFeed K) fFe _ := ⟨ok_feed FFe T, mFe, kFe, bFe⟩
  have gDr : CalN l.prog w K mg base "_law_draw" 1 ["feed", "limit"] spDraw fDr _ := ⟨ok_draw FDr T, mDr, kDr, bDr⟩
  have gGr : CalN l.prog w K mg base "_law_great" 2 ["feed", "parts"] spGreat fGr _ := ⟨ok_great FGr T gDr.G mDr kDr bDr, mGr, kGr, bGr⟩
  have gPa : CalN l.prog w K mg base "_law_pair" 1 ["above", "below"] spPair fPa _ := ⟨ok_pair FPa T, mPa, kPa, bPa⟩
  have gIs : CalN l.prog w K mg base "_law_is_integer" 1 ["actual"] spIsInt fIs _ := ⟨ok_isInt FIs T, mIs, kIs, bIs⟩
  have gSa : CalN l.prog w K mg base "_law_same" 2 ["actual", "due"] (spSame C) fSa _ := ⟨ok_same FSa T TR IC gIs.G mIs kIs bIs, mSa, kSa, bSa⟩
  have gFr : CalN l.prog w K mg base "_law_fraction" 3 ["feed", "parts"] spFrac fFr _ := ⟨ok_frac FFr T gDr gGr, mFr, kFr, bFr⟩
  have gRf : CalN l.prog w K mg base "_law_refused" 5 ["above"] spRefused fRf _ := ⟨ok_refused FRf TR R M GIX bI gMk gDu, mRf, kRf, bRf⟩
  have gQu : CalN l.prog w K mg base "_law_quotient" 6 ["one", "two"] spQuot fQu _ := ⟨ok_quot FQu TR R M GI bI mO GO bOv gPa gSa gMk gDu, mQu, kQu, bQu⟩
  have gEr : CalN l.prog w K mg base "_law_error" 4 ["k", "thing"] spErr fEr _ := ⟨ok_err FEr R mRs kRs bRs (ok_raise FRs R GW bW) gMk gDu, mEr, kEr, bEr⟩
  have gEm : CalN l.prog w K mg base "_law_empty" 3 [] spEmpty fEm _ := ⟨ok_empty FEm R GW bW1, mEm, kEm, bEm⟩
  have gBn : CalN l.prog w K mg base "_law_by_name" 3 ["thing"] spByName fBn _ := ⟨ok_byname FBn T R GW bWk, mBn, kBn, bBn⟩
  exact ok_law (fun_mk (st := sLaw) lL cL kL) T ms gFe gDr gGr gFr gQu gRf gEr gEm gBn
theorem walk {l : PySem.W.OpenLaw} {q : Program} {loose : List Str} {XP : (Str → Option Value) → Heap → Prop} {YP : World → Heap → Prop} {d : DefRec} {K : Params → PySem.W.Frag} (hn : l.most = some 63) (hdf : d.params.defaults = [])
    (hY : ∀ (w : World) (h : Heap), YP w h → (K w.params).In h)
    (F : ∀ (w : World) (mg : Str → Option Value) (fa : Addr) (h : Heap), (K w.params).In h → h.Ns mainGlobals mg → mg d.name = some (.ref fa) →
      ∃ fd : FuncData, (∀ (s : Shared) (u : Value), BindsTo s fd ⟨[u], []⟩ [("script", u)]) ∧ ∀ base : Heap, (K w.params).In base → base.Ns mainGlobals mg → FnOk l.prog w (K w.params) mg base CX0 7 fa fd ["script"] (spLaw (K w.params))) :
    PySem.W.WalkO q loose XP YP l.row.toRowW d [] (fun f vs => PySem.call f vs) :=
  L2.walk_of (n := 63) (k := 7) (x := "script") (CX := fun _ => CX0) (sp := fun w => spLaw (K w.params)) hn (by decide) hdf ⟨rfl, by decide, by decide⟩ hY F (fun _ _ a ns hl _ hS => ⟨a, ns, rfl, hS, hl, fun _ => rfl⟩) fun _ _ _ _ _ z => z
end RX

set_option Elab.async false

open PySem PySem.W PyProof.Rows in
set_option maxRecDepth 100000 in
set_option maxHeartbeats 0 in
theorem PySem.Challenge.cw_wordworth_k03_ratio_refusals_holds : PySem.Challenge.rw_wordworth_k03_ratio_refusals.Holds := by
  w_on; o_law; k_head; (case hw => w_witness2)
  k_fill
  refine RX.walk (l := PySem.Challenge.rw_wordworth_k03_ratio_refusals) rfl rfl (fun w h Y => PySem.W.kIn_of Y) ?F
  case F =>
    intro w mg fa h KX G hmg
    refine' RX.all_mk KX G hmg ?aC ?aG ?aI ?iI ?lI ?cI ?kI ?aOv ?iOv ?lOv ?cOv ?kOv ?lT ?aFe ?lFe ?cFe ?kFe ?aDr ?lDr ?cDr ?kDr ?aGr ?lGr ?cGr ?kGr ?aPa ?lPa ?cPa ?kPa ?aIs ?lIs ?cIs ?kIs ?aSa ?lSa ?cSa ?kSa ?aMk ?lMk ?cMk ?kMk ?aDu ?lDu ?cDu ?kDu ?aFr ?lFr ?cFr ?kFr ?aRf ?lRf ?cRf ?kRf ?aQu ?lQu ?cQu ?kQu ?aRs ?lRs ?cRs ?kRs ?aEr ?lEr ?cEr ?kEr ?aEm ?lEm ?cEm ?kEm ?aBn ?lBn ?cBn ?kBn ?aL ?lL ?cL ?kL ?pg ?hd ?po ?sa ?mk ?kc ?nT ?nB ?xa ?xn ?xt ?xm ?aE10 ?xE10 ?sE10 ?kE10 ?iE10 ?nE10 ?gE10 ?hE10 ?dE10 ?cE10 ?aE0 ?xE0 ?sE0 ?kE0 ?iE0 ?nE0 ?gE0 ?hE0 ?dE0 ?cE0 ?aE1 ?xE1 ?sE1 ?kE1 ?iE1 ?nE1 ?gE1 ?hE1 ?dE1 ?cE1 ?aE2 ?xE2 ?sE2 ?kE2 ?iE2 ?nE2 ?gE2 ?hE2 ?dE2 ?cE2 ?aE3 ?xE3 ?sE3 ?kE3 ?iE3 ?nE3 ?gE3 ?hE3 ?dE3 ?cE3 ?aE4 ?xE4 ?sE4 ?kE4 ?iE4 ?nE4 ?gE4 ?hE4 ?dE4 ?cE4 ?aE5 ?xE5 ?sE5 ?kE5 ?iE5 ?nE5 ?gE5 ?hE5 ?dE5 ?cE5 ?aE6 ?xE6 ?sE6 ?kE6 ?iE6 ?nE6 ?gE6 ?hE6 ?dE6 ?cE6 ?aE7 ?xE7 ?sE7 ?kE7 ?iE7 ?nE7 ?gE7 ?hE7 ?dE7 ?cE7 ?aE8 ?xE8 ?sE8 ?kE8 ?iE8 ?nE8 ?gE8 ?hE8 ?dE8 ?cE8 ?aE9 ?xE9 ?sE9 ?kE9 ?iE9 ?nE9 ?gE9 ?hE9 ?dE9 ?cE9 ?tW ?lW ?cW ?kW ?lTW ?nd ?z_abs ?z_len ?z_int ?z_max ?z_range ?z_isinstance ?z_bool ?z_str ?z_ValueError
    (case aC => k_is)
    (case aG => k_is)
    (case aI => k_is)
    (case iI => k_is)
    (case lI => k_is)
    (case cI => k_is)
    (case kI => k_is)
    (case aOv => k_is)
    (case iOv => k_is)
    (case lOv => k_is)
    (case cOv => k_is)
    (case kOv => k_is)
    (case lT => k_is)
    (case aFe => k_is)
    (case lFe => k_is)
    (case cFe => k_is)
    (case kFe => k_is)
    (case aDr => k_is)
    (case lDr => k_is)
    (case cDr => k_is)
    (case kDr => k_is)
    (case aGr => k_is)
    (case lGr => k_is)
    (case cGr => k_is)
    (case kGr => k_is)
    (case aPa => k_is)
    (case lPa => k_is)
    (case cPa => k_is)
    (case kPa => k_is)
    (case aIs => k_is)
    (case lIs => k_is)
    (case cIs => k_is)
    (case kIs => k_is)
    (case aSa => k_is)
    (case lSa => k_is)
    (case cSa => k_is)
    (case kSa => k_is)
    (case aMk => k_is)
    (case lMk => k_is)
    (case cMk => k_is)
    (case kMk => k_is)
    (case aDu => k_is)
    (case lDu => k_is)
    (case cDu => k_is)
    (case kDu => k_is)
    (case aFr => k_is)
    (case lFr => k_is)
    (case cFr => k_is)
    (case kFr => k_is)
    (case aRf => k_is)
    (case lRf => k_is)
    (case cRf => k_is)
    (case kRf => k_is)
    (case aQu => k_is)
    (case lQu => k_is)
    (case cQu => k_is)
    (case kQu => k_is)
    (case aRs => k_is)
    (case lRs => k_is)
    (case cRs => k_is)
    (case kRs => k_is)
    (case aEr => k_is)
    (case lEr => k_is)
    (case cEr => k_is)
    (case kEr => k_is)
    (case aEm => k_is)
    (case lEm => k_is)
    (case cEm => k_is)
    (case kEm => k_is)
    (case aBn => k_is)
    (case lBn => k_is)
    (case cBn => k_is)
    (case kBn => k_is)
    (case aL => k_is)
    (case lL => k_is)
    (case cL => k_is)
    (case kL => k_is)
    (case pg => k_is)
    (case hd => k_is)
    (case po => k_is)
    (case sa => k_is)
    (case mk => k_is)
    (case kc => k_is)
    (case nT => k_is)
    (case nB => k_is)
    (case xa => k_is)
    (case xn => k_is)
    (case xt => k_is)
    (case xm => k_is)
    (case aE10 => k_is)
    (case xE10 => k_is)
    (case sE10 => k_is)
    (case kE10 => k_is)
    (case iE10 => k_is)
    (case nE10 => k_is)
    (case gE10 => k_is)
    (case hE10 => k_is)
    (case dE10 => k_is)
    (case cE10 => k_is)
    (case aE0 => k_is)
    (case xE0 => k_is)
    (case sE0 => k_is)
    (case kE0 => k_is)
    (case iE0 => k_is)
    (case nE0 => k_is)
    (case gE0 => k_is)
    (case hE0 => k_is)
    (case dE0 => k_is)
    (case cE0 => k_is)
    (case aE1 => k_is)
    (case xE1 => k_is)
    (case sE1 => k_is)
    (case kE1 => k_is)
    (case iE1 => k_is)
    (case nE1 => k_is)
    (case gE1 => k_is)
    (case hE1 => k_is)
    (case dE1 => k_is)
    (case cE1 => k_is)
    (case aE2 => k_is)
    (case xE2 => k_is)
    (case sE2 => k_is)
    (case kE2 => k_is)
    (case iE2 => k_is)
    (case nE2 => k_is)
    (case gE2 => k_is)
    (case hE2 => k_is)
    (case dE2 => k_is)
    (case cE2 => k_is)
    (case aE3 => k_is)
    (case xE3 => k_is)
    (case sE3 => k_is)
    (case kE3 => k_is)
    (case iE3 => k_is)
    (case nE3 => k_is)
    (case gE3 => k_is)
    (case hE3 => k_is)
    (case dE3 => k_is)
    (case cE3 => k_is)
    (case aE4 => k_is)
    (case xE4 => k_is)
    (case sE4 => k_is)
    (case kE4 => k_is)
    (case iE4 => k_is)
    (case nE4 => k_is)
    (case gE4 => k_is)
    (case hE4 => k_is)
    (case dE4 => k_is)
    (case cE4 => k_is)
    (case aE5 => k_is)
    (case xE5 => k_is)
    (case sE5 => k_is)
    (case kE5 => k_is)
    (case iE5 => k_is)
    (case nE5 => k_is)
    (case gE5 => k_is)
    (case hE5 => k_is)
    (case dE5 => k_is)
    (case cE5 => k_is)
    (case aE6 => k_is)
    (case xE6 => k_is)
    (case sE6 => k_is)
    (case kE6 => k_is)
    (case iE6 => k_is)
    (case nE6 => k_is)
    (case gE6 => k_is)
    (case hE6 => k_is)
    (case dE6 => k_is)
    (case cE6 => k_is)
    (case aE7 => k_is)
    (case xE7 => k_is)
    (case sE7 => k_is)
    (case kE7 => k_is)
    (case iE7 => k_is)
    (case nE7 => k_is)
    (case gE7 => k_is)
    (case hE7 => k_is)
    (case dE7 => k_is)
    (case cE7 => k_is)
    (case aE8 => k_is)
    (case xE8 => k_is)
    (case sE8 => k_is)
    (case kE8 => k_is)
    (case iE8 => k_is)
    (case nE8 => k_is)
    (case gE8 => k_is)
    (case hE8 => k_is)
    (case dE8 => k_is)
    (case cE8 => k_is)
    (case aE9 => k_is)
    (case xE9 => k_is)
    (case sE9 => k_is)
    (case kE9 => k_is)
    (case iE9 => k_is)
    (case nE9 => k_is)
    (case gE9 => k_is)
    (case hE9 => k_is)
    (case dE9 => k_is)
    (case cE9 => k_is)
    (case tW => k_is)
    (case lW => k_is)
    (case cW => k_is)
    (case kW => k_is)
    (case lTW => k_is)
    (case nd => decide)
    (case z_abs => k_is)
    (case z_len => k_is)
    (case z_int => k_is)
    (case z_max => k_is)
    (case z_range => k_is)
    (case z_isinstance => k_is)
    (case z_bool => k_is)
    (case z_str => k_is)
    (case z_ValueError => k_is)

