import PyProof.Rows.All
import Wide.All
import OpenK.AllK
import Wide.FinOn
import HandS.Call
import HandS.List
import HandS.Wide
import KE.KOpsOwn
import HandS.ForMost
import HandS.Gcd
import HandS.MakeKw
import HandS.IsInst
import HandS.Codes
import HandS.Small
import HandS.Zip
import HandS.Ends
import KE.KMathG
import HandS.Walk
import HandS.IterVal
import HandS.WideBits
import HandS.StrMore
import HandS.Rev
import PyProof.StrOps
import HandS.Sort
import HandS.Star
import HandS.Property
import HandS.Steps
import KE.GoesEnum
import HandS.DictComp
import HandS.Style
import HandS.Text
import KE.KRevSl
import PySem.Challenge.RW_wordworth_k36_corners
/-! lowest terms, in plain Lean -/
namespace RT
def gg (t b : Int) : Int := ((Nat.gcd t.natAbs b.natAbs : Nat) : Int)
def byv (t b : Int) : Int := if b > 0 then gg t b else -(gg t b)
def top (t b : Int) : Int := t.fdiv (byv t b)
def bot (t b : Int) : Int := b.fdiv (byv t b)
theorem gg_pos {t b : Int} (h : b ≠ 0) : 0 < gg t b := by
  have : 0 < Nat.gcd t.natAbs b.natAbs := Nat.gcd_pos_of_pos_right _ (by omega)
  unfold gg; omega
theorem byv_ne {t b : Int} (h : b ≠ 0) : byv t b ≠ 0 := by
  have := gg_pos (t := t) h
  unfold byv; split <;> omega
theorem gg_dvd_l (t b : Int) : gg t b ∣ t := by
  unfold gg
  exact Int.ofNat_dvd_left.mpr (Nat.gcd_dvd_left _ _)
theorem gg_dvd_r (t b : Int) : gg t b ∣ b := by
  unfold gg
  exact Int.ofNat_dvd_left.mpr (Nat.gcd_dvd_right _ _)
theorem byv_dvd_l (t b : Int) : byv t b ∣ t := by
  unfold byv; split
  · exact gg_dvd_l t b
  · exact Int.neg_dvd.mpr (gg_dvd_l t b)
theorem byv_dvd_r (t b : Int) : byv t b ∣ b := by
  unfold byv; split
  · exact gg_dvd_r t b
  · exact Int.neg_dvd.mpr (gg_dvd_r t b)
theorem byv_natAbs (t b : Int) : (byv t b).natAbs = Nat.gcd t.natAbs b.natAbs := by
  unfold byv gg; split <;> simp
theorem fdiv_of_dvd {a b : Int} (hb : b ≠ 0) (h : b ∣ a) : a.fdiv b * b = a := by
  obtain ⟨k, rfl⟩ := h
  rw [Int.mul_fdiv_cancel_left _ hb, Int.mul_comm]
theorem top_mul {t b : Int} (h : b ≠ 0) : top t b * byv t b = t := fdiv_of_dvd (byv_ne h) (byv_dvd_l t b)
theorem bot_mul {t b : Int} (h : b ≠ 0) : bot t b * byv t b = b := fdiv_of_dvd (byv_ne h) (byv_dvd_r t b)
theorem bot_pos {t b : Int} (h : b ≠ 0) : 0 < bot t b := by
  have e := bot_mul (t := t) h
  have g := gg_pos (t := t) h
  unfold byv at e
  split at e
  · rename_i hb
    rcases Int.lt_trichotomy (bot t b) 0 with z | z | z
    · have := Int.mul_neg_of_neg_of_pos z g; omega
    · rw [z] at e; omega
    · exact z
  · rename_i hb
    rcases Int.lt_trichotomy (bot t b) 0 with z | z | z
    · have := Int.mul_neg_of_neg_of_pos z g
      have h2 : bot t b * -gg t b = -(bot t b * gg t b) := Int.mul_neg _ _
      omega
    · rw [z] at e; omega
    · exact z
theorem cop {t b : Int} (h : b ≠ 0) : Nat.Coprime (top t b).natAbs (bot t b).natAbs := by
  have e1 : (top t b).natAbs * Nat.gcd t.natAbs b.natAbs = t.natAbs := by
    rw [← byv_natAbs, ← Int.natAbs_mul, top_mul h]
  have e2 : (bot t b).natAbs * Nat.gcd t.natAbs b.natAbs = b.natAbs := by
    rw [← byv_natAbs, ← Int.natAbs_mul, bot_mul h]
  have hp : 0 < Nat.gcd t.natAbs b.natAbs := Nat.gcd_pos_of_pos_right _ (by omega)
  have : Nat.gcd ((top t b).natAbs * Nat.gcd t.natAbs b.natAbs) ((bot t b).natAbs * Nat.gcd t.natAbs b.natAbs) = Nat.gcd t.natAbs b.natAbs := by rw [e1, e2]
  rw [Nat.gcd_mul_right] at this
  unfold Nat.Coprime
  exact Nat.eq_of_mul_eq_mul_right hp (by rw [this, Nat.one_mul])
/-- two in lowest terms that are worth the same are the same -/
theorem uniq {n d n' d' : Int} (hd : 0 < d) (hd' : 0 < d') (c : Nat.Coprime n.natAbs d.natAbs) (c' : Nat.Coprime n'.natAbs d'.natAbs) (e : n * d' = n' * d) : n = n' ∧ d = d' := by
  have ea : n.natAbs * d'.natAbs = n'.natAbs * d.natAbs := by rw [← Int.natAbs_mul, e, Int.natAbs_mul]
  have h1 : d.natAbs ∣ d'.natAbs := c.symm.dvd_of_dvd_mul_left ⟨n'.natAbs, by rw [ea, Nat.mul_comm]⟩
  have h2 : d'.natAbs ∣ d.natAbs := c'.symm.dvd_of_dvd_mul_left ⟨n.natAbs, by rw [← ea, Nat.mul_comm]⟩
  have h3 : d.natAbs = d'.natAbs := Nat.dvd_antisymm h1 h2
  have h4 : d = d' := by omega
  subst h4
  exact ⟨Int.eq_of_mul_eq_mul_right (by omega) e, rfl⟩
theorem same {t b t' b' : Int} (h : b ≠ 0) (h' : b' ≠ 0) (e : t * b' = t' * b) : top t b = top t' b' ∧ bot t b = bot t' b' := by
  refine uniq (bot_pos h) (bot_pos h') (cop h) (cop h') ?_
  have e1 := top_mul (t := t) h
  have e2 := bot_mul (t := t) h
  have e3 := top_mul (t := t') h'
  have e4 := bot_mul (t := t') h'
  refine Int.eq_of_mul_eq_mul_right (byv_ne (t := t) h) (Int.eq_of_mul_eq_mul_right (byv_ne (t := t') h') ?_)
  calc top t b * bot t' b' * byv t b * byv t' b' = (top t b * byv t b) * (bot t' b' * byv t' b') := by ac_rfl
    _ = t * b' := by rw [e1, e4]
    _ = t' * b := e
    _ = (top t' b' * byv t' b') * (bot t b * byv t b) := by rw [e3, e2]
    _ = top t' b' * bot t b * byv t b * byv t' b' := by ac_rfl
/-- what is in lowest terms stays -/
theorem keeps {n d : Int} (hd : 0 < d) (c : Nat.Coprime n.natAbs d.natAbs) : top n d = n ∧ bot n d = d := by
  have h : d ≠ 0 := by omega
  refine uniq (bot_pos h) hd (cop h) c ?_
  have e1 := top_mul (t := n) h
  have e2 := bot_mul (t := n) h
  refine Int.eq_of_mul_eq_mul_right (byv_ne (t := n) h) ?_
  calc top n d * d * byv n d = (top n d * byv n d) * d := by ac_rfl
    _ = n * d := by rw [e1]
    _ = n * (bot n d * byv n d) := by rw [e2]
    _ = n * bot n d * byv n d := by ac_rfl
theorem one (t : Int) : top t 1 = t ∧ bot t 1 = 1 := keeps (by decide) (Nat.coprime_one_right _)
/-- worth: the fraction is the same number -/
theorem cross {t b : Int} (h : b ≠ 0) : top t b * b = t * bot t b := by
  have e1 := top_mul (t := t) h
  have e2 := bot_mul (t := t) h
  have e : top t b * b = top t b * (bot t b * byv t b) := by rw [e2]
  have e' : t * bot t b = (top t b * byv t b) * bot t b := by rw [e1]
  rw [e, e']; ac_rfl
theorem top_le {t b : Int} (h : b ≠ 0) : (top t b).natAbs ≤ t.natAbs := by
  have e1 : (top t b).natAbs * (byv t b).natAbs = t.natAbs := by rw [← Int.natAbs_mul, top_mul h]
  have : 0 < (byv t b).natAbs := by have := byv_ne (t := t) h; omega
  rw [← e1]; exact Nat.le_mul_of_pos_right _ this
theorem bot_le {t b : Int} (h : b ≠ 0) : (bot t b).natAbs ≤ b.natAbs := by
  have e1 : (bot t b).natAbs * (byv t b).natAbs = b.natAbs := by rw [← Int.natAbs_mul, bot_mul h]
  have : 0 < (byv t b).natAbs := by have := byv_ne (t := t) h; omega
  rw [← e1]; exact Nat.le_mul_of_pos_right _ this
theorem byv_le {t b : Int} (h : b ≠ 0) : (byv t b).natAbs ≤ b.natAbs := by
  rw [byv_natAbs]; exact Nat.le_of_dvd (by omega) (Nat.gcd_dvd_right _ _)
/-- minus and less -/
theorem neg_cop {n d : Int} (c : Nat.Coprime n.natAbs d.natAbs) : Nat.Coprime (0 - n).natAbs d.natAbs := by
  have : (0 - n).natAbs = n.natAbs := by omega
  rw [this]; exact c
/-- distributive, over lowest terms -/
theorem chain {a b c d e f : Int} (hb : b ≠ 0) (hd : d ≠ 0) (hf : f ≠ 0) :
    top (top (a * e) (b * f) * bot (c * e) (d * f) + top (c * e) (d * f) * bot (a * e) (b * f)) (bot (a * e) (b * f) * bot (c * e) (d * f))
      = top (top (a * d + c * b) (b * d) * e) (bot (a * d + c * b) (b * d) * f) ∧
    bot (top (a * e) (b * f) * bot (c * e) (d * f) + top (c * e) (d * f) * bot (a * e) (b * f)) (bot (a * e) (b * f) * bot (c * e) (d * f))
      = bot (top (a * d + c * b) (b * d) * e) (bot (a * d + c * b) (b * d) * f) := by
  have h1 : b * f ≠ 0 := Int.mul_ne_zero hb hf
  have h2 : d * f ≠ 0 := Int.mul_ne_zero hd hf
  have h3 : b * d ≠ 0 := Int.mul_ne_zero hb hd
  have p1 := bot_pos (t := a * e) h1
  have p2 := bot_pos (t := c * e) h2
  have p3 := bot_pos (t := a * d + c * b) h3
  have x1 := cross (t := a * e) h1
  have x2 := cross (t := c * e) h2
  have x3 := cross (t := a * d + c * b) h3
  generalize top (a * e) (b * f) = n1 at *
  generalize bot (a * e) (b * f) = d1 at *
  generalize top (c * e) (d * f) = n2 at *
  generalize bot (c * e) (d * f) = d2 at *
  generalize top (a * d + c * b) (b * d) = n3 at *
  generalize bot (a * d + c * b) (b * d) = d3 at *
  refine same (Int.mul_ne_zero (by omega) (by omega)) (Int.mul_ne_zero (by omega) hf) ?_
  -- (n1 d2 + n2 d1) (d3 f) = (n3 e) (d1 d2)
  refine Int.eq_of_mul_eq_mul_right h3 (Int.eq_of_mul_eq_mul_right hf ?_)
  have L : (n1 * d2 + n2 * d1) * (d3 * f) * (b * d) * f = ((n1 * (b * f)) * (d2 * d * d3) + (n2 * (d * f)) * (d1 * b * d3)) * f := by
    simp only [Int.add_mul, Int.mul_add]
    congr 1 <;> ac_rfl
  have R : n3 * e * (d1 * d2) * (b * d) * f = (n3 * (b * d)) * (e * d1 * d2 * f) := by ac_rfl
  rw [L, R, x1, x2, x3]
  simp only [Int.add_mul, Int.mul_add]
  congr 1 <;> ac_rfl
end RT

set_option Elab.async false
set_option maxRecDepth 100000
namespace RX
open PySem PySem.Spec PyProof.Rows L2
/-- // by a divisor of either sign, below 2 ^ 9000 -/
def CDivZ (_ j : Int) : Prop := j ≠ 0 ∧ j.natAbs.log2 < 9000
theorem op_fdivZ {X : Cx} : OpR X (binaryOp .FloorDiv) (rI CDivZ fun i j => .int (i.fdiv j)) := opI fun _ _ _ _ _ _ _ hc q => floordiv_int hc.1 q (.inl (PyProof.noPylong_of_log2 hc.2))
theorem divZ {i j : Int} {b : Nat} (h : j ≠ 0) (hb : j.natAbs < 2 ^ b) (h0 : 0 < b) (h9 : b ≤ 9000) : CDivZ i j := ⟨h, Nat.lt_of_lt_of_le (PySem.Flt.log2_lt_of h0 hb) h9⟩
/-- the class at C has the operator op as the def at f -/
structure OpOf (K : PySem.W.Frag) (C : Addr) (x : Str) (f : Addr) : Prop where
  first : PySem.W.selfFirst K C = true
  at_ : PySem.W.findIn K (.ref C) x = some (some (.ref f))
  fn : PySem.W.isFn K (.ref f) = true
/-- a op b, both instances of the class at C: what the operator's def promises; it hands back an object -/
def rOwn (C : Addr) (sp : Sp) (E : XK) : R2 := fun x y H Q => ∃ a b dx dy fs gs, x = .ref a ∧ y = .ref b ∧ H a = some (.ins C dx fs) ∧ H b = some (.ins C dy gs) ∧ sp [.ref a, .ref b] H (fun v H' => (∃ c, v = .ref c) ∧ Q v H') E
def rOwn1 (C : Addr) (sp : Sp) (E : XK) : V → Hp → VK → Prop := fun x H Q => ∃ a dx fs, x = .ref a ∧ H a = some (.ins C dx fs) ∧ sp [.ref a] H Q E
section
variable {X : Cx} {CX : CXT} {k : Nat} {C f : Addr} {fd : FuncData} {ps : List Str} {sp : Sp} {E : XK}
theorem op_own {op : Operator} (O : OpOf X.K C (PySem.dunder op.info.2) f) (F : FnOk X.prog X.w X.K X.mg X.base CX k f fd ps sp) (hr : Room k X.A) (hb : Binds X.K fd ps []) (hx : Passes CX X E) : OpR X (binaryOp op) (rOwn C sp E) := by
  intro pins s σ H x y v u Q I rx ry h
  obtain ⟨a, b, dx, dy, fs, gs, rfl, rfl, ha, hb', hs⟩ := h
  cases rx
  cases ry
  obtain ⟨mA, J, _⟩ := ins_get I.hok ha
  obtain ⟨mB, J', _⟩ := ins_get I.hok hb'
  obtain ⟨od, J, _⟩ := J.look
  obtain ⟨od', J', _⟩ := J'.look
  obtain ⟨m, hF⟩ := I.fr
  refine PySem.W.binop_K hF I.ok.mod.kin J J'.type O.first O.at_ O.fn ?_
  refine thn (run_fn (us := [.ref a, .ref b]) (vs := [.ref a, .ref b]) (dvs := []) (ds := []) F hr hb .nil hx I (.cons rfl (.cons rfl .nil)) hs) fun w' s' hq => ?_
  obtain ⟨z, H', I', rz, ⟨c, ez⟩, q⟩ := hq
  subst ez
  cases rz
  exact ⟨.ref c, H', I', rfl, q⟩
theorem un_own {op : UnaryOp} (h1 : op = .USub) (hs : PySem.W.findIn X.K (.ref C) "__neg__" = some (some (.ref f))) (hf : PySem.W.isFn X.K (.ref f) = true) (F : FnOk X.prog X.w X.K X.mg X.base CX k f fd ps sp) (hr : Room k X.A) (hb : Binds X.K fd ps []) (hx : Passes CX X E) : UnR X (unaryOp op) (rOwn1 C sp E) := by
  subst h1
  intro pins s σ H x v Q I rx h
  obtain ⟨a, dx, fs, rfl, ha, hsp⟩ := h
  cases rx
  obtain ⟨mA, J, _⟩ := ins_get I.hok ha
  obtain ⟨od, J, _⟩ := J.look
  obtain ⟨m, hF⟩ := I.fr
  refine PySem.W.ksp_neg hF I.ok.mod.kin J hs hf ?_
  exact run_fn (us := [.ref a]) (vs := [.ref a]) (dvs := []) (ds := []) F hr hb .nil hx I (.cons rfl .nil) hsp
end
end RX

set_option Elab.async false
set_option maxRecDepth 100000
namespace RX
open PySem L2
def topS (i : Nat) : Stmt := PySem.Challenge.pw_wordworth_k36_corners.main.body.getD i (.Pass ⟨0, 0, 0, 0⟩)
abbrev sInit : Stmt := inClass (topS 8) 0
abbrev sAdd : Stmt := inClass (topS 8) 1
abbrev sSub : Stmt := inClass (topS 8) 2
abbrev sMul : Stmt := inClass (topS 8) 3
abbrev sNeg : Stmt := inClass (topS 8) 4
/-! ### a Ratio -/
theorem tb : ¬ (("top" : Str) = "bottom") := by decide +kernel
def rf (n d : Int) : List (Str × V) := putF "bottom" (.int d) (putF "top" (.int n) [])
theorem rf_top (n d : Int) : (rf n d).lookup ("top" : Str) = some (.int n) := by
  unfold rf
  rw [lookup_putF, if_neg tb, lookup_putF, if_pos rfl]
theorem rf_bot (n d : Int) : (rf n d).lookup ("bottom" : Str) = some (.int d) := by
  unfold rf
  rw [lookup_putF, if_pos rfl]
theorem rf_no (n d : Int) {m : Str} (h1 : ¬ m = "bottom") (h2 : ¬ m = "top") : (rf n d).lookup m = none := by
  unfold rf
  rw [lookup_putF, if_neg h1, lookup_putF, if_neg h2]
  all_goals rfl
/-- the Ratio n / d stands at p -/
def RatAt (C : Addr) (H : Hp) (p : Addr) (n d : Int) : Prop := ∃ dx, H p = some (.ins C dx (rf n d))
theorem RatAt.same {C : Addr} {H H' : Hp} {p : Addr} {n d : Int} (s : Same H H') (h : RatAt C H p n d) : RatAt C H' p n d := let ⟨dx, e⟩ := h; ⟨dx, s _ _ e⟩
theorem Same.upd {H : Hp} {p : Addr} {o : HO} (h : H p = none) : Same H (upd H p o) := fun b x e => by
  rw [upd_ne (ne_of_none e h)]
  exact e
/-- of at most 4400 bits -/
def Sm (x : Int) : Prop := x.natAbs < 2 ^ 4400
/-- of at most 8900 bits -/
def Md (x : Int) : Prop := x.natAbs < 2 ^ 8900
theorem Sm.mul {x y : Int} (a : Sm x) (b : Sm y) : x.natAbs * y.natAbs < 2 ^ 8800 := by
  have := Nat.mul_lt_mul'' a b
  rw [← Nat.pow_add] at this
  exact this
theorem Sm.w {x y : Int} (a : Sm x) (b : Sm y) : CMulW x y := wide_mul a b (by decide) (by decide) (by decide)
theorem Sm.md {x y : Int} (a : Sm x) (b : Sm y) : Md (x * y) := by
  unfold Md
  rw [Int.natAbs_mul]
  exact Nat.lt_trans (Sm.mul a b) (Nat.pow_lt_pow_right (by decide) (by decide))
/-! ### promises -/
def spInit (C : Addr) : Sp := fun vs H Q _ => ∃ (p dx : Addr) (t b : Int), vs = [.ref p, .int t, .int b] ∧ H p = some (.ins C dx []) ∧ b ≠ 0 ∧ Md b ∧
  ∀ H' : Hp, RatAt C H' p (RT.top t b) (RT.bot t b) → (∀ c o, H c = some o → c ≠ p → H' c = some o) → Q .non H'
/-- of two Ratios: a new one -/
def spBin (C : Addr) (g g' : Int → Int → Int → Int → Int) : Sp := fun vs H Q _ => ∃ (p q : Addr) (n d m e : Int), vs = [.ref p, .ref q] ∧ RatAt C H p n d ∧ RatAt C H q m e ∧ d ≠ 0 ∧ e ≠ 0 ∧ Sm n ∧ Sm d ∧ Sm m ∧ Sm e ∧
  ∀ (r : Addr) (H' : Hp), Same H H' → H r = none → RatAt C H' r (RT.top (g n d m e) (g' n d m e)) (RT.bot (g n d m e) (g' n d m e)) → Q (.ref r) H'
def spAdd (C : Addr) : Sp := spBin C (fun n d m e => n * e + m * d) (fun _ d _ e => d * e)
def spSub (C : Addr) : Sp := spBin C (fun n d m e => n * e - m * d) (fun _ d _ e => d * e)
def spMul (C : Addr) : Sp := spBin C (fun n _ m _ => n * m) (fun _ d _ e => d * e)
def spNeg (C : Addr) : Sp := fun vs H Q _ => ∃ (p : Addr) (n d : Int), vs = [.ref p] ∧ RatAt C H p n d ∧ d ≠ 0 ∧ Sm d ∧
  ∀ (r : Addr) (H' : Hp), Same H H' → H r = none → RatAt C H' r (RT.top (-n) d) (RT.bot (-n) d) → Q (.ref r) H'
structure TxtR (K : PySem.W.Frag) (mg : Str → Option Value) (C : Addr) : Prop where
  cl : Cls K C
  nT : NoAttr K C "top"
  nB : NoAttr K C "bottom"
  mgC : mg "Ratio" = some (.ref C)
  gcd : mg "gcd" = some (.builtin "math.gcd")
section
variable {P : Program} {w : World} {K : PySem.W.Frag} {mg : Str → Option Value} {base : Heap}
theorem scI : FnScope ["self", "top", "bottom", "shared", "by"] ["self", "top", "bottom"] (defScope sInit) := ⟨rfl, rfl, rfl, by decide +kernel, rfl, by decide +kernel, by decide +kernel⟩
theorem ok_init {f C : Addr} {fd : FuncData} (F : FunD K "__init__" "Ratio.__init__" (defArgs sInit) (defBody sInit) (defScope sInit) [.int 1] [] f fd) (T : TxtR K mg C) : FnOk P w K mg base CX0 1 f fd ["self", "top", "bottom"] (spInit C) := by
  refine F.ok scI (fun vs H Q E h => ?_) (fun cdv A outer s H vs Q E hr h => ?_)
  · obtain ⟨p, dx, t, b, rfl, _⟩ := h
    rfl
  · obtain ⟨p, dx, t, b, rfl, hp, hb, hz, k⟩ := h
    refine ⟨_, pss_cons (ps_if (pt_cmpR op_eq (pv 2) pe_int (nomark _)) (pss_one ps_never) pss_nil)
      (pss_cons (ps_set (i := 3) scI.nd rfl (Or.inl rfl) (pe_callBfun cr_gcd (by rfl) T.gcd (pa_cons (pv 1) (pa_cons (pv 2) pa_nil))))
      (pss_cons (ps_set (i := 4) scI.nd rfl (Or.inl rfl) (pe_ifExp (pt_cmpR op_gt (pv 2) pe_int (nomark _)) (pv 3) (pe_un un_neg (pv 3))))
      (pss_cons (ps_fld (pv 0) (pe_op op_fdivZ (pv 1) (pv 4)) rfl)
      (pss_one (ps_fld (pv 0) (pe_op op_fdivZ (pv 2) (pv 4)) rfl))))), ?_⟩
    refine ⟨_, rfl, rfl, _, rfl, ?_⟩
    refine ite2 (fun z => ?_) (fun _ => ?_)
    · have z' := of_decide_eq_true z
      injection z' with z'
      exact absurd z' hb
    refine ⟨_, rfl, _, rfl, t, b, rfl, ?_⟩
    refine ⟨_, rfl, _, _, rfl, rfl, _, rfl, ?_⟩
    have by_ne := RT.byv_ne (t := t) hb
    have by_le := RT.byv_le (t := t) hb
    have hdiv : ∀ x y : Int, y = RT.byv t b → CDivZ x y := fun x y e => by
      subst e
      exact divZ by_ne (Nat.lt_of_le_of_lt by_le hz) (by decide) (by decide)
    have key : (if decide (b > 0) = true then RT.gg t b else -RT.gg t b) = RT.byv t b := by
      unfold RT.byv
      by_cases h0 : b > 0
      · rw [if_pos h0, if_pos (decide_eq_true h0)]
      · rw [if_neg h0, if_neg (by rw [decide_eq_false h0]; exact Bool.false_ne_true)]
    have fin : ∀ x : Int, x = RT.byv t b → Q .non (upd (upd H p (.ins C dx (putF "top" (.int (t.fdiv x)) []))) p (.ins C dx (putF "bottom" (.int (b.fdiv x)) (putF "top" (.int (t.fdiv x)) [])))) := fun x e => by
      subst e
      refine k _ ⟨dx, upd_same⟩ fun c o hc ne => ?_
      rw [upd_ne ne, upd_ne ne]
      exact hc
    refine ite2 (fun z => ?_) (fun z => ?_)
    · rw [if_pos z] at key
      refine ⟨_, rfl, _, rfl, _, rfl, _, _, rfl, rfl, (hdiv t _ key), _, rfl, p, C, dx, [], rfl, hp, T.cl, T.nT, (by show 0 < 1000; decide), ?_⟩
      exact ⟨_, rfl, _, rfl, _, _, rfl, rfl, (hdiv b _ key), _, rfl, p, C, dx, _, rfl, upd_same, T.cl, T.nB, (by show 1 < 1000; decide), fin _ key⟩
    · rw [if_neg z] at key
      refine ⟨_, rfl, _, rfl, _, rfl, _, rfl, _, _, rfl, rfl, (hdiv t _ key), _, rfl, p, C, dx, [], rfl, hp, T.cl, T.nT, (by show 0 < 1000; decide), ?_⟩
      exact ⟨_, rfl, _, rfl, _, _, rfl, rfl, (hdiv b _ key), _, rfl, p, C, dx, _, rfl, upd_same, T.cl, T.nB, (by show 1 < 1000; decide), fin _ key⟩
/-- Ratio(t, b), both written: the rule's own question answered -/
theorem make_in {C : Addr} {H : Hp} {t b : Int} {Q : VK} {E : XK} (hb : b ≠ 0) (hz : Md b) (k : ∀ (r : Addr) (H' : Hp), Same H H' → H r = none → RatAt C H' r (RT.top t b) (RT.bot t b) → Q (.ref r) H') :
    ∀ x dx, H x = none → H dx = none → dx ≠ x → spInit C (.ref x :: ([.int t, .int b] ++ [])) (upd (upd H dx (.own x)) x (.ins C dx [])) (fun v H2 => v = .non ∧ Q (.ref x) H2) E := by
  intro x dx nx nd ne
  exact ⟨x, dx, t, b, rfl, upd_same, hb, hz, fun H' hR kp => ⟨rfl, k x H' (Same.made nx nd kp) nx hR⟩⟩
theorem scA : FnScope ["self", "other", "top"] ["self", "other"] (defScope sAdd) := ⟨rfl, rfl, rfl, by decide +kernel, rfl, by decide +kernel, by decide +kernel⟩
theorem scS : FnScope ["self", "other", "top"] ["self", "other"] (defScope sSub) := ⟨rfl, rfl, rfl, by decide +kernel, rfl, by decide +kernel, by decide +kernel⟩
theorem scM : FnScope ["self", "other"] ["self", "other"] (defScope sMul) := ⟨rfl, rfl, rfl, by decide +kernel, rfl, by decide +kernel, by decide +kernel⟩
theorem scN : FnScope ["self"] ["self"] (defScope sNeg) := ⟨rfl, rfl, rfl, by decide +kernel, rfl, by decide +kernel, by decide +kernel⟩
section
variable {f fI C : Addr} {fd fdI : FuncData} {k : Nat} (T : TxtR K mg C) (M : Mk K C fI) (GI : FnOk P w K mg base CX0 1 fI fdI ["self", "top", "bottom"] (spInit C)) (bI : Binds K fdI ["self", "top", "bottom"] [])
include T M GI bI
theorem ok_add (F : Fun K "__add__" "Ratio.__add__" sAdd f fd) : FnOk P w K mg base CX0 3 f fd ["self", "other"] (spAdd C) := by
  refine F.ok scA (fun vs H Q E h => ?_) (fun cdv A outer s H vs Q E hr h => ?_)
  · obtain ⟨p, q, n, d, m, e, rfl, _⟩ := h
    rfl
  · obtain ⟨p, q, n, d, m, e, rfl, ⟨dx, hp⟩, ⟨dy, hq⟩, hd, he, sn, sd, sm, se, kk⟩ := h
    refine ⟨_, pss_cons (ps_set (i := 2) scA.nd rfl (Or.inl rfl) (pe_op op_add (pe_op op_mulW (pe_fld (pv 0) rfl) (pe_fld (pv 1) rfl)) (pe_op op_mulW (pe_fld (pv 1) rfl) (pe_fld (pv 0) rfl))))
      (pss_one (ps_ret (pe_make M GI hr rfl T.mgC bI .nil pass0 (pa_cons (pv 2) (pa_cons (pe_op op_mulW (pe_fld (pv 0) rfl) (pe_fld (pv 1) rfl)) pa_nil))))), ?_⟩
    refine ⟨_, rfl, p, C, dx, _, _, rfl, hp, T.cl, T.nT, rf_top _ _, _, rfl, q, C, dy, _, _, rfl, hq, T.cl, T.nB, rf_bot _ _, _, _, rfl, rfl, Sm.w sn se,
      _, rfl, q, C, dy, _, _, rfl, hq, T.cl, T.nT, rf_top _ _, _, rfl, p, C, dx, _, _, rfl, hp, T.cl, T.nB, rf_bot _ _, _, _, rfl, rfl, Sm.w sm sd, _, _, rfl, rfl, ?_⟩
    refine ⟨_, rfl, _, rfl, p, C, dx, _, _, rfl, hp, T.cl, T.nB, rf_bot _ _, _, rfl, q, C, dy, _, _, rfl, hq, T.cl, T.nB, rf_bot _ _, _, _, rfl, rfl, Sm.w sd se, ?_⟩
    exact make_in (Int.mul_ne_zero hd he) (Sm.md sd se) kk
theorem ok_sub (F : Fun K "__sub__" "Ratio.__sub__" sSub f fd) : FnOk P w K mg base CX0 3 f fd ["self", "other"] (spSub C) := by
  refine F.ok scS (fun vs H Q E h => ?_) (fun cdv A outer s H vs Q E hr h => ?_)
  · obtain ⟨p, q, n, d, m, e, rfl, _⟩ := h
    rfl
  · obtain ⟨p, q, n, d, m, e, rfl, ⟨dx, hp⟩, ⟨dy, hq⟩, hd, he, sn, sd, sm, se, kk⟩ := h
    refine ⟨_, pss_cons (ps_set (i := 2) scS.nd rfl (Or.inl rfl) (pe_op op_sub (pe_op op_mulW (pe_fld (pv 0) rfl) (pe_fld (pv 1) rfl)) (pe_op op_mulW (pe_fld (pv 1) rfl) (pe_fld (pv 0) rfl))))
      (pss_one (ps_ret (pe_make M GI hr rfl T.mgC bI .nil pass0 (pa_cons (pv 2) (pa_cons (pe_op op_mulW (pe_fld (pv 0) rfl) (pe_fld (pv 1) rfl)) pa_nil))))), ?_⟩
    refine ⟨_, rfl, p, C, dx, _, _, rfl, hp, T.cl, T.nT, rf_top _ _, _, rfl, q, C, dy, _, _, rfl, hq, T.cl, T.nB, rf_bot _ _, _, _, rfl, rfl, Sm.w sn se,
      _, rfl, q, C, dy, _, _, rfl, hq, T.cl, T.nT, rf_top _ _, _, rfl, p, C, dx, _, _, rfl, hp, T.cl, T.nB, rf_bot _ _, _, _, rfl, rfl, Sm.w sm sd, _, _, rfl, rfl, ?_⟩
    refine ⟨_, rfl, _, rfl, p, C, dx, _, _, rfl, hp, T.cl, T.nB, rf_bot _ _, _, rfl, q, C, dy, _, _, rfl, hq, T.cl, T.nB, rf_bot _ _, _, _, rfl, rfl, Sm.w sd se, ?_⟩
    exact make_in (Int.mul_ne_zero hd he) (Sm.md sd se) kk
theorem ok_mul (F : Fun K "__mul__" "Ratio.__mul__" sMul f fd) : FnOk P w K mg base CX0 3 f fd ["self", "other"] (spMul C) := by
  refine F.ok scM (fun vs H Q E h => ?_) (fun cdv A outer s H vs Q E hr h => ?_)
  · obtain ⟨p, q, n, d, m, e, rfl, _⟩ := h
    rfl
  · obtain ⟨p, q, n, d, m, e, rfl, ⟨dx, hp⟩, ⟨dy, hq⟩, hd, he, sn, sd, sm, se, kk⟩ := h
    refine ⟨_, pss_one (ps_ret (pe_make M GI hr rfl T.mgC bI .nil pass0 (pa_cons (pe_op op_mulW (pe_fld (pv 0) rfl) (pe_fld (pv 1) rfl)) (pa_cons (pe_op op_mulW (pe_fld (pv 0) rfl) (pe_fld (pv 1) rfl)) pa_nil)))), ?_⟩
    refine ⟨_, rfl, p, C, dx, _, _, rfl, hp, T.cl, T.nT, rf_top _ _, _, rfl, q, C, dy, _, _, rfl, hq, T.cl, T.nT, rf_top _ _, _, _, rfl, rfl, Sm.w sn sm, ?_⟩
    refine ⟨_, rfl, p, C, dx, _, _, rfl, hp, T.cl, T.nB, rf_bot _ _, _, rfl, q, C, dy, _, _, rfl, hq, T.cl, T.nB, rf_bot _ _, _, _, rfl, rfl, Sm.w sd se, ?_⟩
    exact make_in (Int.mul_ne_zero hd he) (Sm.md sd se) kk
theorem ok_neg (F : Fun K "__neg__" "Ratio.__neg__" sNeg f fd) : FnOk P w K mg base CX0 3 f fd ["self"] (spNeg C) := by
  refine F.ok scN (fun vs H Q E h => ?_) (fun cdv A outer s H vs Q E hr h => ?_)
  · obtain ⟨p, n, d, rfl, _⟩ := h
    rfl
  · obtain ⟨p, n, d, rfl, ⟨dx, hp⟩, hd, sd, kk⟩ := h
    refine ⟨_, pss_one (ps_ret (pe_make M GI hr rfl T.mgC bI .nil pass0 (pa_cons (pe_un un_neg (pe_fld (pv 0) rfl)) (pa_cons (pe_fld (pv 0) rfl) pa_nil)))), ?_⟩
    refine ⟨_, rfl, p, C, dx, _, _, rfl, hp, T.cl, T.nT, rf_top _ _, _, rfl, ?_⟩
    refine ⟨_, rfl, p, C, dx, _, _, rfl, hp, T.cl, T.nB, rf_bot _ _, ?_⟩
    exact make_in hd (Nat.lt_trans sd (Nat.pow_lt_pow_right (by decide) (by decide))) kk
end
end
end RX

set_option Elab.async false
set_option maxRecDepth 100000
namespace RX
open PySem L2
/-! ### the tape -/
abbrev sTape : Stmt := topS 36
theorem scTpe : FnScope ["script", "cell"] ["script"] (defScope sTape) := ⟨rfl, rfl, rfl, by decide +kernel, rfl, by decide +kernel, by decide +kernel⟩
abbrev sNext : Stmt := topS 37
theorem scNxt : FnScope ["tape", "limit", "cell", "found", "seed"] ["tape", "limit"] (defScope sNext) := ⟨rfl, rfl, rfl, by decide +kernel, rfl, by decide +kernel, by decide +kernel⟩
theorem dk {k : Nat} {A : Around} (r : Room k A) : A.units + 1 < cLine := by
  have := r.un
  omega
def tapeD (cl : Addr) (i p t s : Int) : List (Key × V) := [(.inr "cells", .ref cl), (.inr "place", .int i), (.inr "rest", .int p), (.inr "turn", .int t), (.inr "seed", .int s)]
section
variable {cl : Addr} {i p t s v : Int}
theorem kne : (("cells" : Str) ≠ "place" ∧ ("cells" : Str) ≠ "rest" ∧ ("cells" : Str) ≠ "turn" ∧ ("cells" : Str) ≠ "seed") ∧ (("place" : Str) ≠ "rest" ∧ ("place" : Str) ≠ "turn" ∧ ("place" : Str) ≠ "seed") ∧ (("rest" : Str) ≠ "turn" ∧ ("rest" : Str) ≠ "seed") ∧ ("turn" : Str) ≠ "seed" := by decide +kernel
theorem inr_ne {x y : Str} (h : x ≠ y) : ¬ (Sum.inr x : Key) = Sum.inr y := fun z => h (by injection z)
theorem tp_cells : valV (tapeD cl i p t s) (.inr "cells") = some (.ref cl) := by
  unfold tapeD
  rw [valV_pos rfl]
theorem tp_place : valV (tapeD cl i p t s) (.inr "place") = some (.int i) := by
  obtain ⟨⟨a1, a2, a3, a4⟩, ⟨b1, b2, b3⟩, ⟨c1, c2⟩, d1⟩ := kne
  unfold tapeD
  rw [valV_neg (inr_ne a1), valV_pos rfl]
theorem tp_rest : valV (tapeD cl i p t s) (.inr "rest") = some (.int p) := by
  obtain ⟨⟨a1, a2, a3, a4⟩, ⟨b1, b2, b3⟩, ⟨c1, c2⟩, d1⟩ := kne
  unfold tapeD
  rw [valV_neg (inr_ne a2), valV_neg (inr_ne b1), valV_pos rfl]
theorem tp_turn : valV (tapeD cl i p t s) (.inr "turn") = some (.int t) := by
  obtain ⟨⟨a1, a2, a3, a4⟩, ⟨b1, b2, b3⟩, ⟨c1, c2⟩, d1⟩ := kne
  unfold tapeD
  rw [valV_neg (inr_ne a3), valV_neg (inr_ne b2), valV_neg (inr_ne c1), valV_pos rfl]
theorem tp_seed : valV (tapeD cl i p t s) (.inr "seed") = some (.int s) := by
  obtain ⟨⟨a1, a2, a3, a4⟩, ⟨b1, b2, b3⟩, ⟨c1, c2⟩, d1⟩ := kne
  unfold tapeD
  rw [valV_neg (inr_ne a4), valV_neg (inr_ne b3), valV_neg (inr_ne c2), valV_neg (inr_ne d1), valV_pos rfl]
theorem pt_place : putK (tapeD cl i p t s) (.inr "place") (.int v) = tapeD cl v p t s := by
  obtain ⟨⟨a1, a2, a3, a4⟩, ⟨b1, b2, b3⟩, ⟨c1, c2⟩, d1⟩ := kne
  unfold putK tapeD
  simp [a1, b1.symm, b2.symm, b3.symm]
theorem pt_rest : putK (tapeD cl i p t s) (.inr "rest") (.int v) = tapeD cl i v t s := by
  obtain ⟨⟨a1, a2, a3, a4⟩, ⟨b1, b2, b3⟩, ⟨c1, c2⟩, d1⟩ := kne
  unfold putK tapeD
  simp [a2, b1, c1.symm, c2.symm]
theorem pt_turn : putK (tapeD cl i p t s) (.inr "turn") (.int v) = tapeD cl i p v s := by
  obtain ⟨⟨a1, a2, a3, a4⟩, ⟨b1, b2, b3⟩, ⟨c1, c2⟩, d1⟩ := kne
  unfold putK tapeD
  simp [a3, b2, c1, d1.symm]
theorem pt_seed : putK (tapeD cl i p t s) (.inr "seed") (.int v) = tapeD cl i p t v := by
  obtain ⟨⟨a1, a2, a3, a4⟩, ⟨b1, b2, b3⟩, ⟨c1, c2⟩, d1⟩ := kne
  unfold putK tapeD
  simp [a4, b3, c2, d1]
end
/-- the tape stands at a: its cells, the next place, what is left of a great cell, the count of the draws, the seed -/
structure FeedIs (H : Hp) (a cl : Addr) (cs : List Int) (i p t s : Int) : Prop where
  hA : H a = some (.dK (tapeD cl i p t s))
  hC : H cl = some (.lst (cs.map V.int))
  ne : cl ≠ a
  i0 : 0 ≤ i
  p0 : 0 ≤ p
  s0 : 0 ≤ s
  s1 : s < 2147483648
  len : cs.length ≤ 63
  nn : ∀ c ∈ cs, 0 ≤ c
def FeedAt (H : Hp) (a cl : Addr) : Prop := ∃ cs i p t s, FeedIs H a cl cs i p t s
theorem FeedIs.g_cells {H : Hp} {a cl : Addr} {cs : List Int} {i p t s : Int} (h : FeedIs H a cl cs i p t s) : DGet H a (.str "cells") (some (.ref cl)) := by
  have := DGet.k (k := .inr "cells") h.hA
  rw [tp_cells] at this
  exact this
theorem FeedIs.g_place {H : Hp} {a cl : Addr} {cs : List Int} {i p t s : Int} (h : FeedIs H a cl cs i p t s) : DGet H a (.str "place") (some (.int i)) := by
  have := DGet.k (k := .inr "place") h.hA
  rw [tp_place] at this
  exact this
theorem FeedIs.g_rest {H : Hp} {a cl : Addr} {cs : List Int} {i p t s : Int} (h : FeedIs H a cl cs i p t s) : DGet H a (.str "rest") (some (.int p)) := by
  have := DGet.k (k := .inr "rest") h.hA
  rw [tp_rest] at this
  exact this
theorem FeedIs.g_turn {H : Hp} {a cl : Addr} {cs : List Int} {i p t s : Int} (h : FeedIs H a cl cs i p t s) : DGet H a (.str "turn") (some (.int t)) := by
  have := DGet.k (k := .inr "turn") h.hA
  rw [tp_turn] at this
  exact this
theorem FeedIs.g_seed {H : Hp} {a cl : Addr} {cs : List Int} {i p t s : Int} (h : FeedIs H a cl cs i p t s) : DGet H a (.str "seed") (some (.int s)) := by
  have := DGet.k (k := .inr "seed") h.hA
  rw [tp_seed] at this
  exact this
/-- all but what stands at a is as it was -/
def But (a : Addr) (H H' : Hp) : Prop := ∀ b o, H b = some o → b ≠ a → H' b = some o
theorem But.refl (a : Addr) (H : Hp) : But a H H := fun _ _ h _ => h
theorem But.trans {a : Addr} {H H1 H2 : Hp} (x : But a H H1) (y : But a H1 H2) : But a H H2 := fun b o h n => y b o (x b o h n) n
theorem Same.but {a : Addr} {H H1 : Hp} (x : Same H H1) : But a H H1 := fun b o h _ => x b o h
theorem But.upd (a : Addr) (H : Hp) (o : HO) : But a H (L2.upd H a o) := fun b o' h n => by rw [upd_ne n]; exact h
theorem FeedIs.same {H H' : Hp} {a cl : Addr} {cs : List Int} {i p t s : Int} (h : FeedIs H a cl cs i p t s) (x : Same H H') : FeedIs H' a cl cs i p t s :=
  ⟨x _ _ h.hA, x _ _ h.hC, h.ne, h.i0, h.p0, h.s0, h.s1, h.len, h.nn⟩
theorem FeedAt.same {H H' : Hp} {a cl : Addr} (h : FeedAt H a cl) (x : Same H H') : FeedAt H' a cl := let ⟨cs, i, p, t, s, f⟩ := h; ⟨cs, i, p, t, s, f.same x⟩
/-- the tape written anew -/
theorem FeedIs.put {H : Hp} {a cl : Addr} {cs : List Int} {i p t s i' p' t' s' : Int} (h : FeedIs H a cl cs i p t s) (i0 : 0 ≤ i') (p0 : 0 ≤ p') (s0 : 0 ≤ s') (s1 : s' < 2147483648) :
    FeedIs (upd H a (.dK (tapeD cl i' p' t' s'))) a cl cs i' p' t' s' :=
  ⟨upd_same, by rw [upd_ne h.ne]; exact h.hC, h.ne, i0, p0, s0, s1, h.len, h.nn⟩
def spFeed (K : PySem.W.Frag) : Sp := fun vs H Q _ => ∃ (a : Addr) (ns : List Int), vs = [.ref a] ∧ SqL K H a (ns.map V.int) ∧ ns.length ≤ 63 ∧ ∀ (r cl : Addr) (H' : Hp), Same H H' → H r = none → H cl = none → FeedAt H' r cl → Q (.ref r) H'
def spDraw : Sp := fun vs H Q _ => ∃ (a cl : Addr) (m : Int), vs = [.ref a, .int m] ∧ FeedAt H a cl ∧ 0 < m ∧ m < 1073741824 ∧ ∀ (r : Int) (H' : Hp), 0 ≤ r → r < m → FeedAt H' a cl → But a H H' → Q (.int r) H'
structure TxtL (mg : Str → Option Value) : Prop where
  abs : mg "abs" = none
  len : mg "len" = none
  int : mg "int" = none
  max : mg "max" = none
  range : mg "range" = none
  isi : mg "isinstance" = none
  bool : mg "bool" = none
/-- a pair of ints stands at p -/
def PairAt (H : Hp) (p : Addr) (n d : Int) : Prop := H p = some (.tup [.int n, .int d])
theorem PairAt.same {H H' : Hp} {p : Addr} {n d : Int} (h : PairAt H p n d) (s : Same H H') : PairAt H' p n d := s _ _ h
theorem PairAt.t {K : PySem.W.Frag} {H : Hp} {p : Addr} {n d : Int} (h : PairAt H p n d) : SqT K H p [.int n, .int d] := SqT.of h
theorem But.free {a cl : Addr} {H H1 : Hp} {r : Addr} (x : But a H H1) (h : H1 r = none) (f : FeedAt H1 a cl) : H r = none := by
  cases q : H r with
  | none => rfl
  | some o =>
    by_cases e : r = a
    · subst e
      obtain ⟨cs, i, p, t, s, f⟩ := f
      rw [f.hA] at h
      cases h
    · rw [x r o q e] at h
      cases h
/-- a def of the law that is called by its name -/
structure CalN (P : Program) (w : World) (K : PySem.W.Frag) (mg : Str → Option Value) (base : Heap) (x : Str) (k : Nat) (ps : List Str) (sp : Sp) (f : Addr) (fd : FuncData) : Prop where
  G : FnOk P w K mg base CX0 k f fd ps sp
  m : mg x = some (.ref f)
  kp : PySem.W.keepIn K (.ref f) = true
  b : Binds K fd ps []
/-- of at most 500 bits -/
def Ti (x : Int) : Prop := x.natAbs < 2 ^ 500
theorem pw {a b : Nat} (h : a ≤ b) {x : Nat} (hx : x < 2 ^ a) : x < 2 ^ b := Nat.lt_of_lt_of_le hx (Nat.pow_le_pow_right (by decide) h)
theorem mulB {x y : Int} {a b : Nat} (ha : x.natAbs < 2 ^ a) (hb : y.natAbs < 2 ^ b) : (x * y).natAbs < 2 ^ (a + b) := wide_lt ha hb
theorem addB {x y : Int} {a : Nat} (ha : x.natAbs < 2 ^ a) (hb : y.natAbs < 2 ^ a) : (x + y).natAbs < 2 ^ (a + 1) := by
  have := Int.natAbs_add_le x y
  rw [Nat.pow_succ]
  omega
theorem topB {t b : Int} {a : Nat} (h : b ≠ 0) (ha : t.natAbs < 2 ^ a) : (RT.top t b).natAbs < 2 ^ a := Nat.lt_of_le_of_lt (RT.top_le h) ha
theorem botB {t b : Int} {a : Nat} (h : b ≠ 0) (ha : b.natAbs < 2 ^ a) : (RT.bot t b).natAbs < 2 ^ a := Nat.lt_of_le_of_lt (RT.bot_le h) ha
theorem botN {t b : Int} (h : b ≠ 0) : RT.bot t b ≠ 0 := by have := RT.bot_pos (t := t) h; omega
theorem map_range_ext {α : Type} {i : Nat} {f g : Nat → α} (h : ∀ j, j < i → f j = g j) : (List.range i).map f = (List.range i).map g :=
  List.map_congr_left fun j hj => h j (List.mem_range.mp hj)
/-- one more at the end -/
def ext {α : Type} (f : Nat → α) (i : Nat) (x : α) : Nat → α := fun j => if j = i then x else f j
theorem ext_same {α : Type} (f : Nat → α) (i : Nat) (x : α) : ext f i x i = x := if_pos rfl
theorem ext_lt {α : Type} (f : Nat → α) {i j : Nat} (x : α) (h : j < i) : ext f i x j = f j := if_neg (by omega)
theorem map_ext {α : Type} (f : Nat → α) (i : Nat) (x : α) : (List.range (i + 1)).map (ext f i x) = (List.range i).map f ++ [x] := by
  rw [List.range_succ, List.map_append]
  rw [map_range_ext (f := ext f i x) (g := f) fun j h => ext_lt f x h]
  show _ ++ [ext f i x i] = _
  rw [ext_same]
theorem FeedAt.there {H : Hp} {a cl : Addr} (f : FeedAt H a cl) : H a ≠ none := by
  obtain ⟨cs, i, p, t, s, f⟩ := f
  rw [f.hA]; intro z; cases z
theorem FeedAt.lst2 {H : Hp} {a cl : Addr} (h : FeedAt H a cl) : ∃ xs, H cl = some (.lst xs) := let ⟨_, _, _, _, _, f⟩ := h; ⟨_, f.hC⟩
theorem FeedAt.other {H : Hp} {a cl r : Addr} {o : HO} (h : FeedAt H a cl) (h1 : r ≠ a) (h2 : r ≠ cl) : FeedAt (upd H r o) a cl :=
  let ⟨cs, i, p, t, s, f⟩ := h
  ⟨cs, i, p, t, s, by rw [upd_ne h1.symm]; exact f.hA, by rw [upd_ne h2.symm]; exact f.hC, f.ne, f.i0, f.p0, f.s0, f.s1, f.len, f.nn⟩
theorem FeedAt.ne_new {H : Hp} {a cl r : Addr} (h : FeedAt H a cl) (n : H r = none) : r ≠ a ∧ r ≠ cl := by
  obtain ⟨cs, i, p, t, s, f⟩ := h
  exact ⟨(ne_of_none f.hA n).symm, (ne_of_none f.hC n).symm⟩
theorem PairAt.ne {H : Hp} {q R : Addr} {n d : Int} {xs : List V} (h : PairAt H q n d) (h2 : H R = some (.lst xs)) : q ≠ R := ne_of h h2 (by intro z; cases z)
theorem PairAt.other {H : Hp} {q R : Addr} {n d : Int} {o : HO} (h : PairAt H q n d) (ne : q ≠ R) : PairAt (upd H R o) q n d := by
  show upd H R o q = _
  rw [upd_ne ne]
  exact h
theorem PairAt.but {H H' : Hp} {a q : Addr} {n d : Int} (h : PairAt H q n d) (x : But a H H') (ne : q ≠ a) : PairAt H' q n d := x _ _ h ne
theorem RatAt.other {C : Addr} {H : Hp} {q R : Addr} {n d : Int} {o : HO} (h : RatAt C H q n d) (ne : q ≠ R) : RatAt C (upd H R o) q n d := by
  obtain ⟨dx, h⟩ := h
  exact ⟨dx, by rw [upd_ne ne]; exact h⟩
theorem ex1 (x : Int) : V.bl (decide (V.int x = V.int x)) = V.bl true := by rw [decide_eq_true rfl]
section
variable {P : Program} {w : World} {K : PySem.W.Frag} {mg : Str → Option Value} {base : Heap}
theorem cut63 (xs : List V) (h : xs.length ≤ 63) : cutV xs none (some 63) = xs := by
  unfold cutV
  rw [show HT.sIx xs.length xs.length (some 63) = min 63 xs.length from HT.sIx_nat xs.length xs.length 63, HT.sIx_none, Nat.min_eq_right h, List.drop_zero, Nat.sub_zero]
  exact List.take_length
theorem ok_feed {f : Addr} {fd : FuncData} (F : Fun K "_law_tape" "_law_tape" sTape f fd) (T : TxtL mg) : FnOk P w K mg base CX0 1 f fd ["script"] (spFeed K) := by
  refine F.ok scTpe (fun vs H Q E h => ?_) (fun cdv A outer s H vs Q E hr h => ?_)
  · obtain ⟨a, ns, rfl, _⟩ := h
    rfl
  · obtain ⟨a, ns, rfl, hS, hl, k⟩ := h
    refine ⟨_, pss_one (ps_ret (pe_disp (pps_cons pe_str (pe_lc (own := [("cell", 1)]) (g := gName 1) (tt := tYes) rfl scTpe.nd (pi_list (pe_slice sl_list (pv 0) po_none (po_some pe_int))) (blkOk_by (N := ["script", "cell"]) (sc := (defScope sTape)) (by decide +kernel)) (fun _ _ _ _ _ => (pg_name (i := 1) scTpe.nd rfl (.inl rfl))) (fun _ _ _ _ _ => pts_nil) (fun _ _ _ _ _ => (pe_callB call_abs (by rfl) T.abs (by decide +kernel) (pa_cons (pe_callTy call_int1 (by rfl) T.int (by decide +kernel) (pa_cons (pv 1) pa_nil)) pa_nil)))) (pps_cons pe_str pe_int (pps_cons pe_str pe_int (pps_cons pe_str pe_int (pps_cons pe_str pe_int pps_nil))))) (by rfl) (by rfl) (fun z => nomatch z) (by decide))), ?_⟩
    intro r nr
    have s0 : Same H (upd H r (.dK [])) := Same.upd nr
    have hr0 : (upd H r (.dK [])) r = some (.dK []) := upd_same
    generalize upd H r (.dK []) = H1 at *
    refine ⟨.ref a, rfl, 63, rfl, a, ns.map V.int, rfl, s0.seq hS, fun c nc => ?_⟩
    rw [cut63 _ (by rw [List.length_map]; exact hl)]
    have s1 : Same H1 (upd H1 c (.lst (ns.map V.int))) := Same.upd nc
    refine ⟨c, rfl, ⟨_, SqL.of upd_same⟩, fun D nD => ?_⟩
    have ncD : c ≠ D := ne_of_none upd_same nD
    have nD0 : H1 D = none := s1.free nD
    refine lc_list (K := K) (a := c) (xs := ns.map V.int) (fun i H2 => Same H1 H2 ∧ H2 c = some (.lst (ns.map V.int)) ∧ H2 D = some (.lst (((ns.take i).map fun z => if z < 0 then -z else z).map V.int))) ⟨s1.trans (Same.upd nD), by rw [upd_ne ncD]; exact upd_same, upd_same⟩ (fun i H2 _ h => SqL.of h.2.1) ?_ ?_
    · rintro i x H2 hi ⟨s2, hq, hD⟩
      obtain ⟨z, hz, rfl⟩ : ∃ z, ns[i]? = some z ∧ V.int z = x := by
        rw [List.getElem?_map] at hi
        cases e : ns[i]? with
        | none => rw [e] at hi; cases hi
        | some z => rw [e] at hi; exact ⟨z, rfl, Option.some.inj hi⟩
      have hi63 : i < ns.length := (List.getElem?_eq_some_iff.mp hz).1
      refine ⟨rfl, ?_⟩
      refine ⟨_, rfl, .inl ⟨z, rfl, z, rfl, _, hD, ?_, ?_⟩⟩
      · rw [List.length_map, List.length_map, List.length_take]
        exact Nat.lt_of_le_of_lt (Nat.min_le_left _ _) (small1000 (by omega))
      · refine ⟨fun b o e => ?_, by rw [upd_ne ncD]; exact hq, ?_⟩
        · rw [upd_ne (ne_of_none e nD0)]
          exact s2 _ _ e
        · rw [upd_same, List.take_add_one, hz, List.map_append, List.map_append]
          rfl
    · rintro H2 ⟨s2, hq, hD⟩
      rw [List.length_map, List.take_length] at hD
      have hr2 : H2 r = some (.dK []) := s2 _ _ hr0
      have nDr : D ≠ r := fun e => by rw [e] at nD0; rw [nD0] at hr0; cases hr0
      refine ⟨hr2, tapeD D 0 0 0 17, rfl, (by show 5 ≤ 15; decide), ?_⟩
      have em : mergeK [] (tapeD D 0 0 0 17) = tapeD D 0 0 0 17 := by
        obtain ⟨⟨a1, a2, a3, a4⟩, ⟨b1, b2, b3⟩, ⟨c1, c2⟩, d1⟩ := kne
        unfold mergeK tapeD
        simp [putK, a1, a2, a3, a4, b1, b2, b3, c1, c2, d1]
      rw [em]
      refine k r D _ ?_ nr (s0.free nD0) ⟨ns.map fun z => if z < 0 then -z else z, 0, 0, 0, 17, upd_same, by rw [upd_ne nDr]; exact hD, nDr, by omega, by omega, by decide, by decide, by rw [List.length_map]; exact hl, ?_⟩
      · intro b o hb
        rw [upd_ne (ne_of_none hb nr)]
        exact s2 _ _ (s0 _ _ hb)
      · intro c hc
        obtain ⟨z, _, rfl⟩ := List.mem_map.mp hc
        show (0 : Int) ≤ if z < 0 then -z else z
        split <;> omega
theorem ok_draw {f : Addr} {fd : FuncData} (F : Fun K "_law_next" "_law_next" sNext f fd) (T : TxtL mg) : FnOk P w K mg base CX0 1 f fd ["tape", "limit"] spDraw := by
  refine F.ok scNxt (fun vs H Q E h => ?_) (fun cdv A outer s H vs Q E hr h => ?_)
  · obtain ⟨a, cl, m, rfl, _⟩ := h
    rfl
  · obtain ⟨a, cl, m, rfl, ⟨cs, i, p, t, s, f0⟩, hm, hm2, k⟩ := h
    refine ⟨_, pss_cons (ps_asg (pe_op op_add (pe_dget (dk hr) (pv 0) pe_str (fun _ _ => rfl)) pe_int) (pg_sub (pv 0) pe_str (set_dict (dk hr))))
      (C8.pss_cut (ps_if (PW.pt (pw_and (pt_cmpR op_eq (pe_dget (dk hr) (pv 0) pe_str (fun _ _ => rfl)) pe_int (nomark _)) (pw_and1 (pt_cmpR op_lt (pe_dget (dk hr) (pv 0) pe_str (fun _ _ => rfl)) (pe_callB call_len_seq (by rfl) T.len PySem.boot_len (pa_cons (pe_dget (dk hr) (pv 0) pe_str (fun _ _ => rfl)) pa_nil)) (nomark _)))))
        (pss_cons (ps_set (i := 2) scNxt.nd rfl (.inl rfl) (pe_ix ix_list (pe_dget (dk hr) (pv 0) pe_str (fun _ _ => rfl)) (pe_dget (dk hr) (pv 0) pe_str (fun _ _ => rfl)) (fun _ _ => rfl)))
        (pss_cons (ps_asg (pe_op op_add (pe_dget (dk hr) (pv 0) pe_str (fun _ _ => rfl)) pe_int) (pg_sub (pv 0) pe_str (set_dict (dk hr))))
        (pss_one (ps_if (pt_cmpR op_ge (pv 2) (pe_op op_pow pe_int pe_int) (nomark _))
          (pss_one (ps_asg (pv 2) (pg_sub (pv 0) pe_str (set_dict (dk hr)))))
          (pss_one (ps_asg (pe_op op_mod (pe_callTy call_int1 (by rfl) T.int (by decide +kernel) (pa_cons (pe_op op_add (pe_op op_add (pe_op op_mul (pe_dget (dk hr) (pv 0) pe_str (fun _ _ => rfl)) pe_int) (pe_op op_mul (pv 2) pe_int)) pe_int) pa_nil)) pe_int) (pg_sub (pv 0) pe_str (set_dict (dk hr)))))))))
        pss_nil)
      (pss_cons (ps_if (pt_cmpR op_gt (pe_dget (dk hr) (pv 0) pe_str (fun _ _ => rfl)) pe_int (nomark _))
        (pss_cons (ps_set (i := 3) scNxt.nd rfl (.inl rfl) (pe_op op_mod (pe_callTy call_int1 (by rfl) T.int (by decide +kernel) (pa_cons (pe_dget (dk hr) (pv 0) pe_str (fun _ _ => rfl)) pa_nil)) (pv 1)))
        (pss_cons (ps_asg (pe_op op_fdiv (pe_dget (dk hr) (pv 0) pe_str (fun _ _ => rfl)) (pv 1)) (pg_sub (pv 0) pe_str (set_dict (dk hr))))
        (pss_one (ps_ret (pv 3)))))
        pss_nil)
      (pss_cons (ps_set (i := 4) scNxt.nd rfl (.inl rfl) (pe_callTy call_int1 (by rfl) T.int (by decide +kernel) (pa_cons (pe_dget (dk hr) (pv 0) pe_str (fun _ _ => rfl)) pa_nil)))
      (pss_cons (ps_set (i := 4) scNxt.nd rfl (.inl rfl) (pe_op op_mod (pe_callTy call_int1 (by rfl) T.int (by decide +kernel) (pa_cons (pe_op op_add (pe_op op_add (pe_op op_mul (pv 4) (pv 4)) (pe_op op_mul (pe_dget (dk hr) (pv 0) pe_str (fun _ _ => rfl)) pe_int)) pe_int) pa_nil)) pe_int))
      (pss_cons (ps_asg (pe_op op_mod (pe_callTy call_int1 (by rfl) T.int (by decide +kernel) (pa_cons (pe_op op_add (pe_op op_mul (pv 4) pe_int) (pe_dget (dk hr) (pv 0) pe_str (fun _ _ => rfl))) pa_nil)) pe_int) (pg_sub (pv 0) pe_str (set_dict (dk hr))))
      (pss_one (ps_ret (pe_op op_mod (pe_callTy call_int1 (by rfl) T.int (by decide +kernel) (pa_cons (pe_op op_add (pe_op op_fdiv (pv 4) pe_int) (pe_dget (dk hr) (pv 0) pe_str (fun _ _ => rfl))) pa_nil)) (pv 1))))))))), ?_⟩
    have few : ∀ {cl : Addr} {i p t s : Int}, (tapeD cl i p t s).length < sizeLine := by intros; show 5 < sizeLine; decide
    refine ⟨_, rfl, a, .int t, rfl, f0.g_turn, _, _, rfl, rfl, _, rfl, a, _, rfl, .inl ⟨_, .inr "turn", f0.hA, rfl, few, rfl⟩, ?_⟩
    rw [pt_turn]
    have f1 := f0.put (i' := i) (p' := p) (t' := t + 1) (s' := s) f0.i0 f0.p0 f0.s0 f0.s1
    have b1 : But a H (upd H a (.dK (tapeD cl i p (t + 1) s))) := But.upd a H _
    generalize upd H a (.dK (tapeD cl i p (t + 1) s)) = H1 at *
    generalize t + 1 = t1 at *
    refine ⟨fun σ' H' => ∃ x2 x3 x4, σ' = [some (.ref a), some (.int m), x2, x3, x4] ∧ FeedAt H' a cl ∧ But a H H', ?_, ?_⟩
    · refine ⟨_, rfl, a, .int p, rfl, f1.g_rest, rfl, _, rfl, ?_⟩
      refine ite2 (fun _ => ?_) (fun _ => ⟨_, _, _, rfl, ⟨cs, i, p, t1, s, f1⟩, b1⟩)
      refine ⟨_, rfl, a, .int i, rfl, f1.g_place, _, rfl, a, .ref cl, rfl, f1.g_cells, cl, _, rfl, .inl (SqL.of f1.hC), _, _, rfl, rfl, _, rfl, ?_⟩
      refine ite2 (fun z => ?_) (fun _ => ⟨_, _, _, rfl, ⟨cs, i, p, t1, s, f1⟩, b1⟩)
      have z := of_decide_eq_true z
      rw [List.length_map] at z
      have hi : (i.toNat : Int) = i := Int.toNat_of_nonneg f1.i0
      have hlt : i.toNat < cs.length := by omega
      have hc : (cs.map V.int)[i.toNat]? = some (V.int cs[i.toNat]) := by
        rw [List.getElem?_map, List.getElem?_eq_getElem hlt]
        rfl
      have c0 : 0 ≤ cs[i.toNat] := f1.nn _ (List.getElem_mem hlt)
      generalize hcv : cs[i.toNat] = cv at hc c0
      refine ⟨_, rfl, a, .ref cl, rfl, f1.g_cells, _, rfl, a, .int i, rfl, f1.g_place, cl, _, i, _, rfl, rfl, SqL.of f1.hC, at_of hi.symm hc, ?_⟩
      refine ⟨_, rfl, a, .int i, rfl, f1.g_place, _, _, rfl, rfl, _, rfl, a, _, rfl, .inl ⟨_, .inr "place", f1.hA, rfl, few, rfl⟩, ?_⟩
      rw [pt_place]
      have f2 := f1.put (i' := i + 1) (p' := p) (t' := t1) (s' := s) (by have := f1.i0; omega) f1.p0 f1.s0 f1.s1
      have b2 : But a H (upd H1 a (.dK (tapeD cl (i + 1) p t1 s))) := b1.trans (But.upd a H1 _)
      generalize upd H1 a (.dK (tapeD cl (i + 1) p t1 s)) = H2 at *
      refine ⟨_, rfl, _, _, rfl, rfl, (by show (0 : Int) ≤ 18 ∧ (18 : Int) ≤ 1000000 ∧ (10 : Int).natAbs < 2 ^ 64; decide), _, _, rfl, rfl, _, rfl, ?_⟩
      refine ite2 (fun _ => ?_) (fun _ => ?_)
      · refine ⟨_, rfl, _, rfl, a, _, rfl, .inl ⟨_, .inr "rest", f2.hA, rfl, few, rfl⟩, ?_⟩
        rw [pt_rest]
        exact ⟨_, _, _, rfl, ⟨cs, _, _, _, _, f2.put (i' := i + 1) (p' := cv) (t' := t1) (s' := s) (by have := f1.i0; omega) c0 f1.s0 f1.s1⟩, b2.trans (But.upd a _ _)⟩
      · refine ⟨_, rfl, a, .int s, rfl, f2.g_seed, _, _, rfl, rfl, .inr (by decide), _, rfl, _, _, rfl, rfl, .inr (by decide), _, _, rfl, rfl, _, _, rfl, rfl, .inl ⟨_, rfl, _, _, rfl, rfl, (by show (0 : Int) < 2147483647; decide), _, rfl, a, _, rfl, .inl ⟨_, .inr "seed", f2.hA, rfl, few, rfl⟩, ?_⟩⟩
        rw [pt_seed]
        exact ⟨_, _, _, rfl, ⟨cs, _, _, _, _, f2.put (i' := i + 1) (p' := p) (t' := t1) (by have := f1.i0; omega) f1.p0 (Int.emod_nonneg _ (by decide)) (Int.lt_trans (Int.emod_lt_of_pos _ (by decide)) (by decide))⟩, b2.trans (But.upd a _ _)⟩
    · rintro σ' H2 ⟨x2, x3, x4, rfl, ⟨cs, i, p, t, s, f2⟩, b2⟩
      refine ⟨_, rfl, a, .int p, rfl, f2.g_rest, _, _, rfl, rfl, _, rfl, ?_⟩
      refine ite2 (fun _ => ?_) (fun _ => ?_)
      · refine ⟨_, rfl, a, .int p, rfl, f2.g_rest, .inl ⟨_, rfl, _, rfl, _, _, rfl, rfl, hm, ?_⟩⟩
        refine ⟨_, rfl, a, .int p, rfl, f2.g_rest, _, rfl, _, _, rfl, rfl, ⟨hm, hm2⟩, _, rfl, a, _, rfl, .inl ⟨_, .inr "rest", f2.hA, rfl, few, rfl⟩, ?_⟩
        rw [pt_rest]
        refine ⟨_, rfl, ?_⟩
        exact k _ _ (Int.emod_nonneg _ (by omega)) (Int.emod_lt_of_pos _ hm) ⟨cs, _, _, _, _, f2.put (i' := i) (t' := t) (s' := s) f2.i0 (Int.ediv_nonneg f2.p0 (by omega)) f2.s0 f2.s1⟩ (b2.trans (But.upd a _ _))
      · refine ⟨_, rfl, a, .int s, rfl, f2.g_seed, .inl ⟨_, rfl, ?_⟩⟩
        have s0 := f2.s0
        have s1 := f2.s1
        refine ⟨_, rfl, _, rfl, _, _, rfl, rfl, .inl ⟨by omega, by omega⟩, _, rfl, a, .int t, rfl, f2.g_turn, _, _, rfl, rfl, .inr (by decide), _, _, rfl, rfl, _, _, rfl, rfl, .inl ⟨_, rfl, _, _, rfl, rfl, (by show (0 : Int) < 2147483399; decide), ?_⟩⟩
        have e0 := Int.emod_nonneg (s * s + t * 7919 + 101) (show (2147483399 : Int) ≠ 0 by decide)
        have e1 := Int.emod_lt_of_pos (s * s + t * 7919 + 101) (show (0 : Int) < 2147483399 by decide)
        refine ⟨_, rfl, _, _, rfl, rfl, .inr (by decide), _, rfl, a, .int t, rfl, f2.g_turn, _, _, rfl, rfl, .inl ⟨_, rfl, _, _, rfl, rfl, (by show (0 : Int) < 2147483647; decide), _, rfl, a, _, rfl, .inl ⟨_, .inr "seed", f2.hA, rfl, few, rfl⟩, ?_⟩⟩
        rw [pt_seed]
        have g0 := Int.emod_nonneg ((s * s + t * 7919 + 101) % 2147483399 * 40692 + t) (show (2147483647 : Int) ≠ 0 by decide)
        have g1 := Int.emod_lt_of_pos ((s * s + t * 7919 + 101) % 2147483399 * 40692 + t) (show (0 : Int) < 2147483647 by decide)
        have f3 := f2.put (i' := i) (p' := p) (t' := t) (s' := ((s * s + t * 7919 + 101) % 2147483399 * 40692 + t) % 2147483647) f2.i0 f2.p0 g0 (by omega)
        refine ⟨_, rfl, _, _, rfl, rfl, ⟨by decide, by decide⟩, _, rfl, a, .int (((s * s + t * 7919 + 101) % 2147483399 * 40692 + t) % 2147483647), rfl, f3.g_seed, _, _, rfl, rfl, .inl ⟨_, rfl, _, rfl, _, _, rfl, rfl, hm, ?_⟩⟩
        exact k _ _ (Int.emod_nonneg _ (by omega)) (Int.emod_lt_of_pos _ hm) ⟨cs, _, _, _, _, f3⟩ (b2.trans (But.upd a _ _))
end
end RX

set_option Elab.async false
set_option maxRecDepth 100000
namespace RX
open PySem L2
/-! ### rows, tables, what comprehensions build -/
/-- k of them, one after another -/
def refs (k : Nat) (a : Nat → Addr) : List V := (List.range k).map fun i => V.ref (a i)
theorem refs_len (k : Nat) (a : Nat → Addr) : (refs k a).length = k := by unfold refs; rw [List.length_map, List.length_range]
theorem refs_get {k : Nat} {a : Nat → Addr} {i : Nat} (h : i < k) : (refs k a)[i]? = some (.ref (a i)) := by
  unfold refs
  rw [List.getElem?_map, List.getElem?_range h]
  rfl
theorem refs_lt {k : Nat} {a : Nat → Addr} {i : Nat} {x : V} (h : (refs k a)[i]? = some x) : i < k ∧ x = .ref (a i) := by
  have hi : i < k := by
    have := (List.getElem?_eq_some_iff.mp h).1
    rw [refs_len] at this
    exact this
  rw [refs_get hi] at h
  exact ⟨hi, (Option.some.inj h).symm⟩
/-- a tuple of Ratios -/
structure RowAt (C : Addr) (H : Hp) (p : Addr) (k : Nat) (a : Nat → Addr) (n d : Nat → Int) : Prop where
  hp : H p = some (.tup (refs k a))
  r : ∀ i, i < k → RatAt C H (a i) (n i) (d i)
theorem RowAt.same {C : Addr} {H H' : Hp} {p : Addr} {k : Nat} {a : Nat → Addr} {n d : Nat → Int} (h : RowAt C H p k a n d) (s : Same H H') : RowAt C H' p k a n d := ⟨s _ _ h.hp, fun i hi => (h.r i hi).same s⟩
theorem refs_ext (S : Nat → Addr) (i : Nat) (x : Addr) : refs (i + 1) (ext S i x) = refs i S ++ [.ref x] := by
  unfold refs
  rw [List.range_succ, List.map_append]
  rw [map_range_ext (f := fun j => V.ref (ext S i x j)) (g := fun j => V.ref (S j)) fun j h => by rw [ext_lt S x h]]
  show _ ++ [V.ref (ext S i x i)] = _
  rw [ext_same]
/-- a property of an address that stays -/
structure Stays (Pr : Hp → Nat → Addr → Prop) : Prop where
  s : ∀ {H H' : Hp} {j : Nat} {x : Addr}, Same H H' → Pr H j x → Pr H' j x
  u : ∀ {H : Hp} {j : Nat} {x D : Addr} {xs ys : List V}, H D = some (.lst xs) → Pr H j x → Pr (upd H D (.lst ys)) j x
structure Built (Pr : Hp → Nat → Addr → Prop) (H : Hp) (D : Addr) (i : Nat) (S : Nat → Addr) (H2 : Hp) : Prop where
  hD : H2 D = some (.lst (refs i S))
  pr : ∀ j, j < i → Pr H2 j (S j)
  s : Same H H2
theorem built0 {Pr : Hp → Nat → Addr → Prop} {H : Hp} {D : Addr} (nD : H D = none) : Built Pr H D 0 (fun _ => D) (upd H D (.lst [])) :=
  ⟨upd_same, fun _ h => absurd h (by omega), Same.upd nD⟩
theorem Built.step {Pr : Hp → Nat → Addr → Prop} {H H2 H3 : Hp} {D x : Addr} {i : Nat} {S : Nat → Addr} (B : Built Pr H D i S H2) (st : Stays Pr) (nD : H D = none) (s : Same H2 H3) (p : Pr H3 i x) :
    Built Pr H D (i + 1) (ext S i x) (upd H3 D (.lst (refs i S ++ [.ref x]))) := by
  have h3 := s _ _ B.hD
  refine ⟨by rw [upd_same, refs_ext], fun j hj => ?_, fun b o e => by rw [upd_ne (ne_of_none e nD)]; exact s _ _ (B.s _ _ e)⟩
  refine st.u h3 ?_
  by_cases e : j = i
  · subst e; rw [ext_same]; exact p
  · rw [ext_lt S x (by omega)]
    exact st.s s (B.pr j (by omega))
theorem RatAt.ne {C : Addr} {H : Hp} {p D : Addr} {n d : Int} {xs : List V} (h : RatAt C H p n d) (h2 : H D = some (.lst xs)) : p ≠ D := by
  obtain ⟨dx, h⟩ := h
  exact ne_of h h2 (by intro z; cases z)
theorem RowAt.updL {C : Addr} {H : Hp} {p D : Addr} {k : Nat} {a : Nat → Addr} {n d : Nat → Int} {xs ys : List V} (h : RowAt C H p k a n d) (h2 : H D = some (.lst xs)) : RowAt C (upd H D (.lst ys)) p k a n d :=
  ⟨by rw [upd_ne (ne_of h.hp h2 (by intro z; cases z))]; exact h.hp, fun i hi => (h.r i hi).other ((h.r i hi).ne h2)⟩
theorem stays_rat {C : Addr} {n d : Nat → Int} : Stays (fun H j x => RatAt C H x (n j) (d j)) := ⟨fun s h => h.same s, fun h2 h => h.other (h.ne h2)⟩
theorem stays_row {C : Addr} {k : Nat} {n d : Nat → Nat → Int} : Stays (fun H i x => ∃ a, RowAt C H x k a (n i) (d i)) := ⟨fun s ⟨a, h⟩ => ⟨a, h.same s⟩, fun h2 ⟨a, h⟩ => ⟨a, h.updL h2⟩⟩
/-- a table of Ratios -/
structure TabAt (C : Addr) (H : Hp) (p : Addr) (h w : Nat) (R : Nat → Addr) (A : Nat → Nat → Addr) (N D : Nat → Nat → Int) : Prop where
  hp : H p = some (.tup (refs h R))
  r : ∀ i, i < h → RowAt C H (R i) w (A i) (N i) (D i)
theorem TabAt.same {C : Addr} {H H' : Hp} {p : Addr} {h w : Nat} {R : Nat → Addr} {A : Nat → Nat → Addr} {N D : Nat → Nat → Int} (x : TabAt C H p h w R A N D) (s : Same H H') : TabAt C H' p h w R A N D := ⟨s _ _ x.hp, fun i hi => (x.r i hi).same s⟩
/-- a list of pairs -/
structure LineAt (H : Hp) (q : Addr) (k : Nat) (a : Nat → Addr) (n d : Nat → Int) : Prop where
  hq : H q = some (.lst (refs k a))
  p : ∀ i, i < k → PairAt H (a i) (n i) (d i)
theorem LineAt.same {H H' : Hp} {q : Addr} {k : Nat} {a : Nat → Addr} {n d : Nat → Int} (h : LineAt H q k a n d) (s : Same H H') : LineAt H' q k a n d := ⟨s _ _ h.hq, fun i hi => (h.p i hi).same s⟩
/-- a list of lists of pairs -/
structure LinesAt (H : Hp) (q : Addr) (h w : Nat) (R : Nat → Addr) (A : Nat → Nat → Addr) (N D : Nat → Nat → Int) : Prop where
  hq : H q = some (.lst (refs h R))
  r : ∀ i, i < h → LineAt H (R i) w (A i) (N i) (D i)
theorem LinesAt.same {H H' : Hp} {q : Addr} {h w : Nat} {R : Nat → Addr} {A : Nat → Nat → Addr} {N D : Nat → Nat → Int} (x : LinesAt H q h w R A N D) (s : Same H H') : LinesAt H' q h w R A N D := ⟨s _ _ x.hq, fun i hi => (x.r i hi).same s⟩
theorem Built.tab {C : Addr} {H H4 : Hp} {D : Addr} {h k : Nat} {S : Nat → Addr} {n d : Nat → Nat → Int} (B : Built (fun H i x => ∃ a, RowAt C H x k a (n i) (d i)) H D h S H4) {r : Addr} (nr : H4 r = none) :
    ∃ A, TabAt C (upd H4 r (.tup (refs h S))) r h k S A n d := by
  have s5 : Same H4 (upd H4 r (.tup (refs h S))) := Same.upd nr
  have ch : ∀ i, ∃ a, i < h → RowAt C H4 (S i) k a (n i) (d i) := fun i => by
    by_cases hi : i < h
    · obtain ⟨a, ha⟩ := B.pr i hi
      exact ⟨a, fun _ => ha⟩
    · exact ⟨fun _ => 0, fun h => absurd h hi⟩
  obtain ⟨B2, hB2⟩ := Classical.axiomOfChoice ch
  exact ⟨B2, upd_same, fun i hi => (hB2 i hi).same s5⟩
theorem LineAt.ne {H : Hp} {q F : Addr} {k : Nat} {a : Nat → Addr} {n d : Nat → Int} {xs : List V} (h : LineAt H q k a n d) (hF : H F = some (.lst xs)) : ∀ i, i < k → a i ≠ F := fun i hi => (h.p i hi).ne hF
theorem LineAt.other {H : Hp} {q F : Addr} {k : Nat} {a : Nat → Addr} {n d : Nat → Int} {xs : List V} {o : HO} (h : LineAt H q k a n d) (hF : H F = some (.lst xs)) (ne : q ≠ F) : LineAt (upd H F o) q k a n d :=
  ⟨by rw [upd_ne ne]; exact h.hq, fun i hi => (h.p i hi).other (h.ne hF i hi)⟩
theorem LineAt.but {H H' : Hp} {q F : Addr} {k : Nat} {a : Nat → Addr} {n d : Nat → Int} {xs : List V} (h : LineAt H q k a n d) (b : But F H H') (hF : H F = some (.lst xs)) (ne : q ≠ F) : LineAt H' q k a n d :=
  ⟨b _ _ h.hq ne, fun i hi => (h.p i hi).but b (h.ne hF i hi)⟩
theorem LinesAt.but {H H' : Hp} {q F : Addr} {h w : Nat} {R : Nat → Addr} {A : Nat → Nat → Addr} {N D : Nat → Nat → Int} {xs : List V} (x : LinesAt H q h w R A N D) (b : But F H H') (hF : H F = some (.lst xs)) (ne : q ≠ F) (nr : ∀ i, i < h → R i ≠ F) : LinesAt H' q h w R A N D :=
  ⟨b _ _ x.hq ne, fun i hi => (x.r i hi).but b hF (nr i hi)⟩
theorem refs_last (k : Nat) (a : Nat → Addr) : atI (refs (k + 1) a) (-1) = some (.ref (a k)) := by
  have : refs (k + 1) a = refs k a ++ [.ref (a k)] := by
    unfold refs
    rw [List.range_succ, List.map_append]
    rfl
  rw [this]
  exact atI_last _ _
def rTupO (K : PySem.W.Frag) : List V → Hp → VK → Prop := fun xs H Q => ∃ p ys, xs = [.ref p] ∧ ((SqL K H p ys ∧ ∀ l : Addr, H l = none → Q (.ref l) (upd H l (.tup ys))) ∨ SqT K H p ys ∧ Q (.ref p) H)
theorem call_tupK {X : Cx} : CallR X (.type "tuple") (rTupO X.K) := call_tuple_of
structure TxtP (mg : Str → Option Value) : Prop where
  zip : mg "zip" = none
  lcm : mg "lcm" = some (.builtin "math.lcm")
  tup : mg "tuple" = none
  list : mg "list" = none
  range : mg "range" = none
end RX

set_option Elab.async false
set_option maxRecDepth 100000
/-! // by a divisor of any size: the room that it wants, from the head on -/
namespace PL
open PySem PySem.Spec PyProof.Rows L2
/-- what // of great numbers asks of program and base -/
structure Big (P : Program) (base : Heap) : Prop where
  ns : base.NoSeer
  tr : P.given.tree = none
/-- the frame on top is a plain one -/
def Plain (X : Cx) : Prop := ∃ e l, X.stack = e :: l ∧ e.scope.isGenerator = false ∧ e.scope.isCoroutine = false ∧ e.builtins = builtinsNs ∧ e.globals = mainGlobals
theorem room {X : Cx} {pins : List (Addr × Obj)} {σ : L2.St} {H : Hp} {s : Shared} (B : Big X.prog X.base) (hr : Room 32 X.A) (hp : Plain X) (I : Inv X pins σ H s) : PylongRoom (model X.prog X.w) X.A s := by
  obtain ⟨e, l, h1, h2, h3, h4, h5⟩ := hp
  have fr := I.ok.frames
  rw [h1] at fr
  have sr : SeerAt (model X.prog X.w) X.A s.heap := SeerAt.of (B.ns.keeps I.bk) B.tr fr h2 h3 h4 h5
  refine PylongRoom.of I.nolimit ?_ sr
  have := hr.dp
  show X.A.depth + 100 < recursionLimit
  omega
theorem op_fdivP {X : Cx} (B : Big X.prog X.base) (hr : Room 32 X.A) (hp : Plain X) : OpR X (binaryOp .FloorDiv) (rI (fun _ j => j ≠ 0) fun i j => .int (i.fdiv j)) := by
  intro pins s σ H x y v u Q I rx ry ⟨i, j, ex, ey, hj, q⟩
  subst ex ey
  obtain ⟨t, rfl⟩ := rx
  obtain ⟨t', rfl⟩ := ry
  exact floordiv_int hj ⟨.int (i.fdiv j), H, I.tok _, ⟨_, rfl⟩, q⟩ (.inr (room B hr hp I))
/-- the law's call, with the room for great divisions told of the base -/
theorem big_call {P : Program} {w : World} {K : PySem.W.Frag} {mg mb : Str → Option Value} {CX : CXT} {k : Nat} {fa a : Addr} {fd : FuncData} {x : Str} {sp : Sp} {s : Shared} {us : List Value} {ns : List Int} (hS : s.heap.NoSeer)
    (hK : K.In s.heap) (h1 : s.heap.Ns mainGlobals mg) (h2 : s.heap.Ns builtinsNs mb) (h3 : ∀ x : Str, x ≠ "__name__" → mb x = bootBuiltins x) (h4 : s.heap.NoLimit) (h5 : s.gens = #[])
    (h6 : s.heap.get? a = some { cls := .type "list", data := .seq us.toArray }) (h7 : IntsAre us ns) (h8 : ns.length ≤ sizeLine) (h9 : Room k callerA)
    (F : ∀ base : Heap, K.In base → base.Ns mainGlobals mg → base.NoSeer → FnOk P w K mg base CX k fa fd [x] sp) (hb : ∀ (s : Shared) (u : Value), BindsTo s fd ⟨[u], []⟩ [(x, u)])
    (hsp : ∀ H : Hp, Only H → SqL K H a (ns.map V.int) → sp [.ref a] H (fun v _ => v = .bl true) fun _ _ _ => False)
    (hc : ∀ H e s', CX [] H s (fun _ _ _ => False) e s' → False) :
    codeAny (model P w) callerA (.call (.ref fa) ⟨[.ref a], []⟩) (fun r s' => r = .ok (.ret (.bool true)) ∧ OldK s.heap s'.heap ∧ s'.os = s.os ∧ AllBare s'.gens) s := by
  have rel := vals_ints h7
  -- what is tracked: the script, where the written part has it not
  let fz : HO := .frz { cls := .type "list", data := .seq us.toArray } (.lst (ns.map V.int))
  let H : Hp := fun b => if b = a then (if (K.lookup a).isSome then none else some fz) else none
  have Hn : ∀ {b : Addr}, b ≠ a → H b = none := fun n => if_neg n
  have Hs : ∀ {b : Addr} {u : HO}, H b = some u → b = a ∧ u = fz ∧ K.lookup a = none := fun {b u} z => by
    by_cases e : b = a
    · subst e
      have z : (if b = b then (if (K.lookup b).isSome then none else some fz) else none) = some u := z
      rw [if_pos rfl] at z
      cases q : K.lookup b with
      | none =>
        rw [q] at z
        exact ⟨rfl, (Option.some.inj z).symm, rfl⟩
      | some o => rw [q] at z; cases z
    · rw [Hn e] at z; cases z
  have only : Only H := fun b => by
    cases q : H b with
    | none => exact .inl rfl
    | some u => exact .inr ⟨_, _, congrArg some (Hs q).2.1⟩
  have old : ∀ {b : Addr} {o : Obj}, s.heap.get? b = some o → b ≠ a → (hidT s.heap H).get? b = some o := fun e n => hidT_get e (Hn n)
  have notA : ∀ {b : Addr} {o : Obj}, s.heap.get? b = some o → (∀ vs n, o.data ≠ .seq vs n) → b ≠ a := fun {b o} e d z => by
    rw [z, h6] at e
    exact d _ _ (congrArg Obj.data (Option.some.inj e)).symm
  have dictA : ∀ {b : Addr} {m : Str → Option Value}, s.heap.Ns b m → (hidT s.heap H).Ns b m := fun {b m} z => by
    obtain ⟨o, es, ep, e, d, r⟩ := z
    exact ⟨o, es, ep, old e (notA e fun vs n y => by rw [d] at y; cases y), d, r⟩
  have kin : K.In (hidT s.heap H) := fun b o e => by
    have e1 := hK b o e
    cases q : H b with
    | none => exact hidT_get e1 q
    | some u =>
      obtain ⟨rfl, _, y⟩ := Hs q
      rw [y] at e; cases e
  have lim : (hidT s.heap H).NoLimit := by
    obtain ⟨mc, l1, l2⟩ := h4
    exact ⟨mc, dictA l1, l2⟩
  have seer : (hidT s.heap H).NoSeer := by
    obtain ⟨⟨m1, a1, b1⟩, ⟨m2, a2, b2⟩, ⟨m3, a3, b3⟩, ⟨m4, bm, ob, a4, b4, c4, d4, e4⟩⟩ := hS
    refine ⟨⟨m1, dictA a1, b1⟩, ⟨m2, dictA a2, b2⟩, ⟨m3, dictA a3, b3⟩, ⟨m4, bm, ob, dictA a4, b4, old c4 (fun z => ?_), d4, e4⟩⟩
    rw [z, h6] at c4
    rw [← Option.some.inj c4] at d4
    have d5 : Value.type "list" = Value.type "module" := d4
    injection d5 with d5
    exact absurd d5 (by decide)
  have md : Mod K mg (hidT s.heap H) := ⟨kin, dictA h1, ⟨mb, dictA h2, h3⟩, lim⟩
  have hok : HOk P w H s.heap := fun b u z => by
    obtain ⟨rfl, rfl, _⟩ := Hs z
    exact ⟨h6, by rw [List.length_map]; exact h8, us, _, rel, h6⟩
  have sq : SqL K H a (ns.map V.int) := by
    cases q : K.lookup a with
    | none =>
      refine .inl (.inr ⟨{ cls := .type "list", data := .seq us.toArray }, ?_⟩)
      show (if a = a then (if (K.lookup a).isSome then none else some fz) else none) = _
      rw [if_pos rfl, q]
      rfl
    | some o =>
      have e1 := (hK a o q).symm.trans h6
      obtain rfl := Option.some.inj e1
      exact .inr ⟨_, us.toArray, _, q, rfl, rfl, rfl, by rw [List.size_toArray, h7.length]; exact h8, by simpa using rel⟩
  have env : Env0 P w K mg (hidT s.heap H) callerA [] s H := ⟨rfl, md, fun b o e => of_hidT e, Nat.le_of_eq (hidT_size _ _), trivial, (fun b z => nomatch z), hok, .of_eq h5⟩
  refine codeAny_mono ((F _ kin (dictA h1) seer).run callerA [] s H ⟨[.ref a], []⟩ [.ref a] [.ref a] _ _ h9 env (hb s (.ref a)) (.cons rfl .nil) (hsp H only sq)) fun r s' z => ?_
  match r, z with
  | .error e, z => exact (hc H e s' z).elim
  | .ok .next, z => exact z.elim
  | .ok .brk, z => exact z.elim
  | .ok .cont, z => exact z.elim
  | .ok (.ret u), z =>
    obtain ⟨v, H', os, bare, un, hok', ru, ev⟩ := z
    have ev : v = .bl true := ev
    subst ev
    have ru : u = Value.bool true := ru
    subst ru
    refine ⟨rfl, OldK.of_keep fun b o e => ?_, os, bare⟩
    cases q : H b with
    | none => exact un.keep b o e q (fun y => by cases y) (fun y => by cases y)
    | some u2 =>
      obtain ⟨rfl, rfl, _⟩ := Hs q
      have y1 := (hok b _ q).1
      have y2 := (hok' b _ (un.frzs b _ _ q)).1
      exact y2.trans (y1.symm.trans e)
theorem big_walk {l : PySem.W.OpenLaw} {n k : Nat} {q : Program} {loose : List Str} {XP : (Str → Option Value) → Heap → Prop} {YP : World → Heap → Prop} {d : DefRec} {K : Params → PySem.W.Frag} {CX : World → CXT} {sp : World → Sp} {x : Str}
    (hi : importsNone q = true) (h1 : l.most = some n) (h2 : n ≤ sizeLine) (h3 : d.params.defaults = []) (hr : Room k callerA)
    (hY : ∀ (w : World) (h : Heap), YP w h → (K w.params).In h)
    (F : ∀ (w : World) (mg : Str → Option Value) (fa : Addr) (h : Heap), (K w.params).In h → h.Ns mainGlobals mg → mg d.name = some (.ref fa) →
      ∃ fd : FuncData, (∀ (s : Shared) (u : Value), BindsTo s fd ⟨[u], []⟩ [(x, u)]) ∧
        ∀ base : Heap, (K w.params).In base → base.Ns mainGlobals mg → base.NoSeer → FnOk l.prog w (K w.params) mg base (CX w) k fa fd [x] (sp w))
    (hsp : ∀ (w : World) (H : Hp) (a : Addr) (ns : List Int), ns.length ≤ n → Only H → SqL (K w.params) H a (ns.map V.int) → sp w [.ref a] H (fun v _ => v = .bl true) fun _ _ _ => False)
    (hC : ∀ (w : World) (H : Hp) (s : Shared) (e : Value) (s' : Shared), CX w [] H s (fun _ _ _ => False) e s' → False) :
    PySem.W.WalkO q loose XP YP l.row.toRowW d [] (fun f vs => PySem.call f vs) := by
  refine Att.attach_call h1 h3 fun w s0 s mg mb fa o pm cd doc a us ns G Y _ _ _ gf ga gi gl gg => ?_
  obtain ⟨fd, hb, hF⟩ := F w mg fa _ (hY w _ Y) G.T.g gf
  exact big_call (G.T.seer hi) (hY w _ Y) G.T.g G.T.b G.T.builtins G.T.nolimit gg ga gi (Nat.le_trans gl h2) hr hF hb (fun H o z => hsp w H a ns gl o z) fun H e s' => hC w H s e s'
end PL

set_option Elab.async false
set_option maxRecDepth 100000
/-! Ratios as numbers, of any size that the model holds -/
namespace RQ
open PySem L2
def Bt (b : Nat) (x : Int) : Prop := x.natAbs < 2 ^ b
theorem Bt.up {a b : Nat} {x : Int} (h : Bt a x) (l : a ≤ b) : Bt b x := Nat.lt_of_lt_of_le h (Nat.pow_le_pow_right (by decide) l)
theorem Bt.mul {a b : Nat} {x y : Int} (h : Bt a x) (k : Bt b y) : Bt (a + b) (x * y) := by
  unfold Bt
  rw [Int.natAbs_mul, Nat.pow_add]
  exact Nat.mul_lt_mul'' h k
theorem Bt.add {a : Nat} {x y : Int} (h : Bt a x) (k : Bt a y) : Bt (a + 1) (x + y) := by
  unfold Bt at *
  have := Int.natAbs_add_le x y
  rw [Nat.pow_succ]
  omega
theorem Bt.sub {a : Nat} {x y : Int} (h : Bt a x) (k : Bt a y) : Bt (a + 1) (x - y) := by
  unfold Bt at *
  have := Int.natAbs_sub_le x y
  rw [Nat.pow_succ]
  omega
theorem Bt.neg {a : Nat} {x : Int} (h : Bt a x) : Bt a (-x) := by
  unfold Bt at *
  rw [Int.natAbs_neg]
  exact h
theorem Bt.le {a : Nat} {x y : Int} (h : Bt a x) (l : y.natAbs ≤ x.natAbs) : Bt a y := Nat.lt_of_le_of_lt l h
theorem Bt.log {a : Nat} {x : Int} (h : Bt a x) : x.natAbs.log2 ≤ a := by
  by_cases z : x.natAbs = 0
  · rw [z]; exact Nat.zero_le _
  · exact Nat.le_of_lt ((Nat.log2_lt z).mpr h)
/-- of at most sixty million bits -/
def Hg (x : Int) : Prop := ∃ b, b ≤ 60000000 ∧ Bt b x
theorem Bt.hg {a : Nat} {x : Int} (h : Bt a x) (l : a ≤ 60000000) : Hg x := ⟨a, l, h⟩
def CMulH (i j : Int) : Prop := Hg i ∧ Hg j
theorem CMulH.ok {i j : Int} (h : CMulH i j) : IntMulOk i j := by
  obtain ⟨⟨a, la, ha⟩, ⟨b, lb, hb⟩⟩ := h
  have ia : ∀ z : Int, Builtin.Int.intBits z ≤ z.natAbs.log2 + 1 := fun z => by unfold Builtin.Int.intBits; split <;> omega
  have e1 := ia i
  have e2 := ia j
  have e3 := ha.log
  have e4 := hb.log
  have line : bitsLine = 134217728 := by decide
  unfold IntMulOk
  intro y
  have y := (Bool.and_eq_true_iff.mp y).2
  unfold Builtin.Int.intTooBig at y
  have y := of_decide_eq_true y
  rw [line] at y
  omega
theorem op_mulH {X : Cx} : OpR X (binaryOp .Mult) (rI CMulH fun i j => .int (i * j)) := opI fun _ _ _ _ _ _ _ hc q => PyProof.Rows.mul_int q hc.ok
/-! ### numbers -/
theorem den0 (q : Rat) : ((q.den : Int) : Rat) ≠ 0 := fun z => q.den_nz (by
  have : ((q.den : Int) : Rat) = ((0 : Int) : Rat) := z
  have := Rat.intCast_inj.mp this
  omega)
theorem nd (q : Rat) : (q.num : Rat) = q * ((q.den : Int) : Rat) := by
  have e : (q.num : Rat) / ((q.den : Int) : Rat) = q := by rw [← Rat.divInt_eq_div, Rat.num_divInt_den]
  have d := den0 q
  grind
theorem i0 {b : Int} (h : b ≠ 0) : (b : Rat) ≠ 0 := fun z => h (Rat.intCast_inj.mp (by rw [z]; rfl))
/-- lowest terms of t / b -/
theorem low {t b : Int} (h : b ≠ 0) {q : Rat} (e : (t : Rat) = q * (b : Rat)) : RT.top t b = q.num ∧ RT.bot t b = (q.den : Int) := by
  have d0 : 0 < (q.den : Int) := by have := q.den_pos; omega
  refine RT.uniq (RT.bot_pos h) d0 (RT.cop h) (by rw [Int.natAbs_natCast]; exact q.reduced) ?_
  have c := RT.cross (t := t) h
  have c' : ((RT.top t b : Int) : Rat) * (b : Rat) = (t : Rat) * ((RT.bot t b : Int) : Rat) := by rw [← Rat.intCast_mul, c, Rat.intCast_mul]
  have n1 := nd q
  have b0 := i0 h
  refine Rat.intCast_inj.mp ?_
  rw [Rat.intCast_mul, Rat.intCast_mul]
  grind
theorem num0 {q : Rat} : q.num = 0 ↔ q = 0 := Rat.num_eq_zero
/-- z over m is the number -/
theorem den_dvd {q : Rat} {z m : Int} (h : m ≠ 0) (e : (z : Rat) = q * (m : Rat)) : (q.den : Int) ∣ m ∧ q.num ∣ z := by
  obtain ⟨e1, e2⟩ := low h e
  rw [← e1, ← e2]
  exact ⟨⟨RT.byv z m, (RT.bot_mul h).symm⟩, ⟨RT.byv z m, (RT.top_mul h).symm⟩⟩
end RQ

set_option exponentiation.threshold 100000
namespace RT
/-- the sum of the products of n / d with m / e, each step in lowest terms -/
def due (n d m e : Nat → Int) : Nat → Int × Int
  | 0 => (0, 1)
  | k + 1 => if n k ≠ 0 ∧ m k ≠ 0 then
      (top ((due n d m e k).1 * bot (n k * m k) (d k * e k) + top (n k * m k) (d k * e k) * (due n d m e k).2) ((due n d m e k).2 * bot (n k * m k) (d k * e k)),
       bot ((due n d m e k).1 * bot (n k * m k) (d k * e k) + top (n k * m k) (d k * e k) * (due n d m e k).2) ((due n d m e k).2 * bot (n k * m k) (d k * e k)))
    else due n d m e k
theorem due_yes {n d m e : Nat → Int} {k : Nat} (h1 : n k ≠ 0) (h2 : m k ≠ 0) : due n d m e (k + 1) =
    (top ((due n d m e k).1 * bot (n k * m k) (d k * e k) + top (n k * m k) (d k * e k) * (due n d m e k).2) ((due n d m e k).2 * bot (n k * m k) (d k * e k)),
       bot ((due n d m e k).1 * bot (n k * m k) (d k * e k) + top (n k * m k) (d k * e k) * (due n d m e k).2) ((due n d m e k).2 * bot (n k * m k) (d k * e k))) := if_pos ⟨h1, h2⟩
theorem due_no {n d m e : Nat → Int} {k : Nat} (h : ¬ (n k ≠ 0 ∧ m k ≠ 0)) : due n d m e (k + 1) = due n d m e k := if_neg h
abbrev BB : Nat := 2 ^ 134
/-- of at most 67 bits, the bottom above 0 -/
structure Fr (x y : Int) : Prop where
  n : x.natAbs < 2 ^ 67
  d : y.natAbs < 2 ^ 67
  p : 0 < y
structure DueOk (k : Nat) (p : Int × Int) : Prop where
  pos : 0 < p.2
  co : Nat.Coprime p.1.natAbs p.2.natAbs
  bot : p.2.natAbs ≤ BB ^ k
  top : p.1.natAbs ≤ k * BB * p.2.natAbs
theorem prod_lt {x y : Int} (h : x.natAbs < 2 ^ 67) (h' : y.natAbs < 2 ^ 67) : (x * y).natAbs ≤ BB := by
  rw [Int.natAbs_mul]
  have := Nat.mul_lt_mul'' h h'
  rw [← Nat.pow_add] at this
  exact Nat.le_of_lt this
theorem due_step {k : Nat} {p : Int × Int} (h : DueOk k p) {x y : Int} (hy : 0 < y) (x1 : x.natAbs ≤ BB) (y1 : y.natAbs ≤ BB) :
    DueOk (k + 1) (RT.top (p.1 * y + x * p.2) (p.2 * y), RT.bot (p.1 * y + x * p.2) (p.2 * y)) := by
  have hD : p.2 * y ≠ 0 := Int.mul_ne_zero (by have := h.pos; omega) (by omega)
  have hDp : 0 < (p.2 * y).natAbs := Int.natAbs_pos.mpr hD
  refine ⟨bot_pos hD, cop hD, ?_, ?_⟩
  · refine Nat.le_trans (bot_le hD) ?_
    rw [Int.natAbs_mul, Nat.pow_succ]
    exact Nat.mul_le_mul h.bot y1
  · have c := cross (t := p.1 * y + x * p.2) hD
    have c' : (RT.top (p.1 * y + x * p.2) (p.2 * y)).natAbs * (p.2 * y).natAbs = (p.1 * y + x * p.2).natAbs * (RT.bot (p.1 * y + x * p.2) (p.2 * y)).natAbs := by rw [← Int.natAbs_mul, c, Int.natAbs_mul]
    have t1 : (p.1 * y + x * p.2).natAbs ≤ (k + 1) * BB * (p.2 * y).natAbs := by
      refine Nat.le_trans (Int.natAbs_add_le _ _) ?_
      rw [Int.natAbs_mul, Int.natAbs_mul, Int.natAbs_mul]
      have a1 : p.1.natAbs * y.natAbs ≤ k * BB * p.2.natAbs * y.natAbs := Nat.mul_le_mul_right _ h.top
      have a2 : x.natAbs * p.2.natAbs ≤ BB * p.2.natAbs * y.natAbs := by
        have : 1 ≤ y.natAbs := by omega
        refine Nat.le_trans (Nat.mul_le_mul_right _ x1) ?_
        exact Nat.le_mul_of_pos_right _ this
      have : (k + 1) * BB * (p.2.natAbs * y.natAbs) = k * BB * p.2.natAbs * y.natAbs + BB * p.2.natAbs * y.natAbs := by
        rw [Nat.add_mul, Nat.add_mul, Nat.one_mul]
        congr 1 <;> ac_rfl
      rw [this]
      exact Nat.add_le_add a1 a2
    refine Nat.le_of_mul_le_mul_right ?_ hDp
    show (RT.top (p.1 * y + x * p.2) (p.2 * y)).natAbs * (p.2 * y).natAbs ≤ (k + 1) * BB * (RT.bot (p.1 * y + x * p.2) (p.2 * y)).natAbs * (p.2 * y).natAbs
    rw [c']
    have := Nat.mul_le_mul_right (RT.bot (p.1 * y + x * p.2) (p.2 * y)).natAbs t1
    refine Nat.le_trans this (Nat.le_of_eq ?_)
    ac_rfl
theorem DueOk.up {k : Nat} {p : Int × Int} (h : DueOk k p) : DueOk (k + 1) p :=
  ⟨h.pos, h.co, Nat.le_trans h.bot (Nat.pow_le_pow_right (by decide) (by omega)), Nat.le_trans h.top (Nat.mul_le_mul_right _ (Nat.mul_le_mul_right _ (by omega)))⟩
theorem due_ok {n d m e : Nat → Int} : ∀ {k : Nat}, (∀ j, j < k → Fr (n j) (d j) ∧ Fr (m j) (e j)) → DueOk k (due n d m e k)
  | 0, _ => ⟨show (0 : Int) < 1 by decide, Nat.coprime_one_right _, show 1 ≤ 1 by decide, Nat.zero_le _⟩
  | k + 1, h => by
    have i := due_ok (k := k) fun j hj => h j (by omega)
    obtain ⟨f1, f2⟩ := h k (by omega)
    by_cases z : n k ≠ 0 ∧ m k ≠ 0
    · rw [due_yes z.1 z.2]
      have hb : d k * e k ≠ 0 := Int.mul_ne_zero (by have := f1.p; omega) (by have := f2.p; omega)
      exact due_step i (bot_pos hb) (Nat.le_trans (top_le hb) (prod_lt f1.n f2.n)) (Nat.le_trans (bot_le hb) (prod_lt f1.d f2.d))
    · rw [due_no z]
      exact i.up
/-- the running sum over one bottom -/
structure SumAt (n d m e : Nat → Int) (k : Nat) (t b : Int) : Prop where
  pos : 0 < b
  bot : b.natAbs ≤ BB ^ k
  top : t.natAbs ≤ k * BB * b.natAbs
  eq : t * (due n d m e k).2 = (due n d m e k).1 * b
def lcmI (x y : Int) : Int := ((Nat.lcm x.natAbs y.natAbs : Nat) : Int)
theorem lcm_l (x y : Int) : x ∣ lcmI x y := by
  unfold lcmI
  exact Int.natAbs_dvd_natAbs.mp (by rw [Int.natAbs_natCast]; exact Nat.dvd_lcm_left _ _)
theorem lcm_r (x y : Int) : y ∣ lcmI x y := by
  unfold lcmI
  exact Int.natAbs_dvd_natAbs.mp (by rw [Int.natAbs_natCast]; exact Nat.dvd_lcm_right _ _)
theorem lcm_pos {x y : Int} (hx : 0 < x) (hy : 0 < y) : 0 < lcmI x y := by
  unfold lcmI
  have : 0 < Nat.lcm x.natAbs y.natAbs := Nat.lcm_pos (by omega) (by omega)
  omega
theorem lcm_le {x y : Int} (hx : 0 < x) (hy : 0 < y) : (lcmI x y).natAbs ≤ x.natAbs * y.natAbs := by
  unfold lcmI
  rw [Int.natAbs_natCast]
  exact Nat.le_of_dvd (Nat.mul_pos (by omega) (by omega)) (Nat.lcm_dvd_mul _ _)
theorem sum_zero {n d m e : Nat → Int} : SumAt n d m e 0 0 1 := ⟨by decide, by decide, by decide, by rfl⟩
theorem sum_no {n d m e : Nat → Int} {k : Nat} {t b : Int} (h : SumAt n d m e k t b) (z : n k * m k = 0) : SumAt n d m e (k + 1) t b := by
  refine ⟨h.pos, Nat.le_trans h.bot (Nat.pow_le_pow_right (by decide) (by omega)), Nat.le_trans h.top (Nat.mul_le_mul_right _ (Nat.mul_le_mul_right _ (by omega))), ?_⟩
  rw [due_no (fun ⟨x, y⟩ => Int.mul_ne_zero x y z)]
  exact h.eq
theorem sum_yes {n d m e : Nat → Int} {k : Nat} {t b : Int} (h : SumAt n d m e k t b) (f : ∀ j, j < k + 1 → Fr (n j) (d j) ∧ Fr (m j) (e j)) (z : n k * m k ≠ 0) :
    SumAt n d m e (k + 1) (t * (lcmI b (d k * e k)).fdiv b + n k * m k * (lcmI b (d k * e k)).fdiv (d k * e k)) (lcmI b (d k * e k)) := by
  obtain ⟨f1, f2⟩ := f k (by omega)
  have hb : 0 < d k * e k := Int.mul_pos f1.p f2.p
  have hL := lcm_pos h.pos hb
  have c1 := fdiv_of_dvd (by have := h.pos; omega) (lcm_l b (d k * e k))
  have c2 := fdiv_of_dvd (by omega) (lcm_r b (d k * e k))
  have hle := lcm_le h.pos hb
  generalize lcmI b (d k * e k) = L at *
  generalize L.fdiv b = q1 at *
  generalize L.fdiv (d k * e k) = q2 at *
  have dk := due_ok (n := n) (d := d) (m := m) (e := e) (k := k) fun j hj => f j (by omega)
  refine ⟨hL, ?_, ?_, ?_⟩
  · rw [Nat.pow_succ]
    exact Nat.le_trans hle (Nat.mul_le_mul h.bot (prod_lt f1.d f2.d))
  · refine Nat.le_trans (Int.natAbs_add_le _ _) ?_
    have e1 : q1.natAbs * b.natAbs = L.natAbs := by rw [← Int.natAbs_mul, c1]
    have e2 : q2.natAbs * (d k * e k).natAbs = L.natAbs := by rw [← Int.natAbs_mul, c2]
    have a1 : (t * q1).natAbs ≤ k * BB * L.natAbs := by
      rw [Int.natAbs_mul, ← e1]
      refine Nat.le_trans (Nat.mul_le_mul_right _ h.top) (Nat.le_of_eq ?_)
      ac_rfl
    have a2 : (n k * m k * q2).natAbs ≤ BB * L.natAbs := by
      rw [Int.natAbs_mul]
      refine Nat.mul_le_mul (prod_lt f1.n f2.n) ?_
      rw [← e2]
      exact Nat.le_mul_of_pos_right _ (by omega)
    have : (k + 1) * BB * L.natAbs = k * BB * L.natAbs + BB * L.natAbs := by
      rw [Nat.add_mul, Nat.add_mul, Nat.one_mul]
    rw [this]
    exact Nat.add_le_add a1 a2
  · have z1 : n k ≠ 0 := fun z' => z (by rw [z', Int.zero_mul])
    have z2 : m k ≠ 0 := fun z' => z (by rw [z', Int.mul_zero])
    rw [due_yes z1 z2]
    have hbn : d k * e k ≠ 0 := by omega
    have x1 := cross (t := n k * m k) hbn
    have y0 := bot_pos (t := n k * m k) hbn
    have he := h.eq
    have p0 := dk.pos
    generalize due n d m e k = p at *
    generalize RT.top (n k * m k) (d k * e k) = x at *
    generalize RT.bot (n k * m k) (d k * e k) = y at *
    have hD : p.2 * y ≠ 0 := Int.mul_ne_zero (by omega) (by omega)
    have c := cross (t := p.1 * y + x * p.2) hD
    have key : (t * q1 + n k * m k * q2) * (p.2 * y) = (p.1 * y + x * p.2) * L := by
      calc (t * q1 + n k * m k * q2) * (p.2 * y) = t * p.2 * (q1 * y) + n k * m k * y * (q2 * p.2) := by
            rw [Int.add_mul]; congr 1 <;> ac_rfl
        _ = p.1 * b * (q1 * y) + x * (d k * e k) * (q2 * p.2) := by rw [he, x1]
        _ = p.1 * y * (q1 * b) + x * p.2 * (q2 * (d k * e k)) := by congr 1 <;> ac_rfl
        _ = p.1 * y * L + x * p.2 * L := by rw [c1, c2]
        _ = _ := by rw [Int.add_mul]
    show (t * q1 + n k * m k * q2) * RT.bot (p.1 * y + x * p.2) (p.2 * y) = RT.top (p.1 * y + x * p.2) (p.2 * y) * L
    refine Int.eq_of_mul_eq_mul_right hD ?_
    calc (t * q1 + n k * m k * q2) * RT.bot (p.1 * y + x * p.2) (p.2 * y) * (p.2 * y) = ((t * q1 + n k * m k * q2) * (p.2 * y)) * RT.bot (p.1 * y + x * p.2) (p.2 * y) := by ac_rfl
      _ = ((p.1 * y + x * p.2) * RT.bot (p.1 * y + x * p.2) (p.2 * y)) * L := by rw [key]; ac_rfl
      _ = (RT.top (p.1 * y + x * p.2) (p.2 * y) * (p.2 * y)) * L := by rw [c]
      _ = RT.top (p.1 * y + x * p.2) (p.2 * y) * L * (p.2 * y) := by ac_rfl
theorem sum_end {n d m e : Nat → Int} {k : Nat} {t b : Int} (h : SumAt n d m e k t b) (f : ∀ j, j < k → Fr (n j) (d j) ∧ Fr (m j) (e j)) : RT.top t b = (due n d m e k).1 ∧ RT.bot t b = (due n d m e k).2 := by
  have dk := due_ok f
  have p0 := dk.pos
  have k1 := keeps dk.pos dk.co
  have s := same (t := t) (b := b) (t' := (due n d m e k).1) (b' := (due n d m e k).2) (by have := h.pos; omega) (by omega) h.eq
  exact ⟨s.1.trans k1.1, s.2.trans k1.2⟩
theorem BB_pow {k : Nat} (h : k ≤ 60) : BB ^ k ≤ 2 ^ 8040 := by
  have : BB ^ k ≤ BB ^ 60 := Nat.pow_le_pow_right (by decide) h
  exact Nat.le_trans this (by rw [← Nat.pow_mul]; exact Nat.le_refl _)
theorem BB_top {k x : Nat} (h : k ≤ 60) (hx : x ≤ 2 ^ 8040) : k * BB * x < 2 ^ 8200 := by
  have h1 : k * BB ≤ 2 ^ 6 * 2 ^ 134 := Nat.mul_le_mul_right _ (by omega)
  have h2 : k * BB * x ≤ 2 ^ 6 * 2 ^ 134 * 2 ^ 8040 := Nat.mul_le_mul h1 hx
  rw [← Nat.pow_add, ← Nat.pow_add] at h2
  exact Nat.lt_of_le_of_lt h2 (Nat.pow_lt_pow_right (by decide) (by decide))
end RT

set_option Elab.async false
set_option maxRecDepth 100000
set_option exponentiation.threshold 100000
namespace RX
open PySem L2
def rLcm : List V → Hp → VK → Prop := fun vs H Q => ∃ a b : Int, vs = [.int a, .int b] ∧ a.natAbs < 2 ^ 13000 ∧ b.natAbs < 2 ^ 13000 ∧ Q (.int (RT.lcmI a b)) H
theorem lcm_log {x : Nat} (h : x < 2 ^ 13000) : ¬ (max 1 x).log2 / 30 + 1 > 450 := by
  have : (max 1 x).log2 < 13000 := by
    refine (Nat.log2_lt (by omega)).mpr ?_
    have : 1 < 2 ^ 13000 := Nat.one_lt_two_pow (by decide)
    omega
  omega
theorem cr_lcm {X : Cx} : CallR X (.builtin "math.lcm") rLcm := by
  intro pins s σ H vs us Q I r h
  obtain ⟨a, b, rfl, ha, hb, q⟩ := h
  obtain ⟨t, u, rfl⟩ := Vals.int2 r
  have e1 : ((Nat.lcm 1 a.natAbs).lcm b.natAbs : Nat) = Nat.lcm a.natAbs b.natAbs := by rw [Nat.lcm_one_left]
  have hm : max a.natAbs b.natAbs < 2 ^ 13000 := by omega
  have g := PySem.W.mg_run_lcm a t b u (lcm_log ha) (by
      have := lcm_log hm
      have h2 : (max a.natAbs b.natAbs).log2 ≤ (max 1 (max a.natAbs b.natAbs)).log2 := by
        by_cases z : max a.natAbs b.natAbs = 0
        · rw [z]; exact Nat.zero_le _
        · rw [show max 1 (max a.natAbs b.natAbs) = max a.natAbs b.natAbs by omega]; exact Nat.le_refl _
      omega) (by
      rw [e1, Int.natAbs_natCast]
      have h3 : Nat.lcm a.natAbs b.natAbs < 2 ^ 26000 := by
        by_cases z : a.natAbs = 0
        · rw [z, Nat.lcm_zero_left]; exact Nat.two_pow_pos _
        by_cases z2 : b.natAbs = 0
        · rw [z2, Nat.lcm_zero_right]; exact Nat.two_pow_pos _
        refine Nat.lt_of_le_of_lt (Nat.le_of_dvd (Nat.mul_pos (by omega) (by omega)) (Nat.lcm_dvd_mul _ _)) ?_
        have := Nat.mul_lt_mul'' ha hb
        rw [← Nat.pow_add] at this
        exact this
      by_cases z : Nat.lcm a.natAbs b.natAbs = 0
      · rw [z]; decide
      · exact Nat.lt_of_lt_of_le ((Nat.log2_lt z).mpr h3) (by decide))
  rw [e1] at g
  exact PySem.call_function_meets PySem.W.MGF.kind_lcm PySem.W.MGF.plain_lcm PySem.W.MGF.entry_lcm (PySem.W.MGF.args_lcm _ _) g.meets ⟨.int _, H, I.tok _, ⟨_, rfl⟩, q⟩
end RX

set_option Elab.async false
set_option maxRecDepth 100000
namespace RX
open PySem L2
open RQ (Hg Bt)
/-! ### Ratios and pairs of any size -/
abbrev sShared : Stmt := topS 40
theorem scShr : FnScope ["one", "other", "rest"] ["one", "other"] (defScope sShared) := ⟨rfl, rfl, rfl, by decide +kernel, rfl, by decide +kernel, by decide +kernel⟩
abbrev sLowest : Stmt := topS 41
theorem scLow : FnScope ["top", "bottom", "shared"] ["top", "bottom"] (defScope sLowest) := ⟨rfl, rfl, rfl, by decide +kernel, rfl, by decide +kernel, by decide +kernel⟩
def spInitB (C : Addr) : Sp := fun vs H Q _ => ∃ (p dx : Addr) (t b : Int), vs = [.ref p, .int t, .int b] ∧ H p = some (.ins C dx []) ∧ b ≠ 0 ∧
  ∀ H' : Hp, RatAt C H' p (RT.top t b) (RT.bot t b) → (∀ c o, H c = some o → c ≠ p → H' c = some o) → Q .non H'
def spPairB : Sp := fun vs H Q _ => ∃ (t b : Int), vs = [.int t, .int b] ∧ b ≠ 0 ∧ ∀ (r : Addr) (H' : Hp), Same H H' → H r = none → PairAt H' r (RT.top t b) (RT.bot t b) → Q (.ref r) H'
def spShr : Sp := fun vs H Q _ => ∃ (t b : Int), vs = [.int t, .int b] ∧ Q (.int (RT.gg t b)) H
section
variable {P : Program} {w : World} {K : PySem.W.Frag} {mg : Str → Option Value} {base : Heap}
theorem scIB : FnScope ["self", "top", "bottom", "shared", "by"] ["self", "top", "bottom"] (defScope sInit) := ⟨rfl, rfl, rfl, by decide +kernel, rfl, by decide +kernel, by decide +kernel⟩
theorem ok_initB (B : PL.Big P base) {f C : Addr} {fd : FuncData} (F : FunD K "__init__" "Ratio.__init__" (defArgs sInit) (defBody sInit) (defScope sInit) [.int 1] [] f fd) (T : TxtR K mg C) : FnOk P w K mg base CX0 33 f fd ["self", "top", "bottom"] (spInitB C) := by
  refine F.ok scIB (fun vs H Q E h => ?_) (fun cdv A outer s H vs Q E hr h => ?_)
  · obtain ⟨p, dx, t, b, rfl, _⟩ := h
    rfl
  · obtain ⟨p, dx, t, b, rfl, hp, hb, k⟩ := h
    refine ⟨_, pss_cons (ps_if (pt_cmpR op_eq (pv 2) pe_int (nomark _)) (pss_one ps_never) pss_nil)
      (pss_cons (ps_set (i := 3) scIB.nd rfl (Or.inl rfl) (pe_callBfun cr_gcd (by rfl) T.gcd (pa_cons (pv 1) (pa_cons (pv 2) pa_nil))))
      (pss_cons (ps_set (i := 4) scIB.nd rfl (Or.inl rfl) (pe_ifExp (pt_cmpR op_gt (pv 2) pe_int (nomark _)) (pv 3) (pe_un un_neg (pv 3))))
      (pss_cons (ps_fld (pv 0) (pe_op (PL.op_fdivP B hr ⟨_, _, rfl, rfl, rfl, rfl, rfl⟩) (pv 1) (pv 4)) rfl)
      (pss_one (ps_fld (pv 0) (pe_op (PL.op_fdivP B hr ⟨_, _, rfl, rfl, rfl, rfl, rfl⟩) (pv 2) (pv 4)) rfl))))), ?_⟩
    refine ⟨_, rfl, rfl, _, rfl, ?_⟩
    refine ite2 (fun z => ?_) (fun _ => ?_)
    · have z' := of_decide_eq_true z
      injection z' with z'
      exact absurd z' hb
    refine ⟨_, rfl, _, rfl, t, b, rfl, ?_⟩
    refine ⟨_, rfl, _, _, rfl, rfl, _, rfl, ?_⟩
    have by_ne := RT.byv_ne (t := t) hb
    have hdiv : ∀ y : Int, y = RT.byv t b → y ≠ 0 := fun y e => by rw [e]; exact by_ne
    have key : (if decide (b > 0) = true then RT.gg t b else -RT.gg t b) = RT.byv t b := by
      unfold RT.byv
      by_cases h0 : b > 0
      · rw [if_pos h0, if_pos (decide_eq_true h0)]
      · rw [if_neg h0, if_neg (by rw [decide_eq_false h0]; exact Bool.false_ne_true)]
    have fin : ∀ x : Int, x = RT.byv t b → Q .non (upd (upd H p (.ins C dx (putF "top" (.int (t.fdiv x)) []))) p (.ins C dx (putF "bottom" (.int (b.fdiv x)) (putF "top" (.int (t.fdiv x)) [])))) := fun x e => by
      subst e
      refine k _ ⟨dx, upd_same⟩ fun c o hc ne => ?_
      rw [upd_ne ne, upd_ne ne]
      exact hc
    refine ite2 (fun z => ?_) (fun z => ?_)
    · rw [if_pos z] at key
      refine ⟨_, rfl, _, rfl, _, rfl, _, _, rfl, rfl, (hdiv _ key), _, rfl, p, C, dx, [], rfl, hp, T.cl, T.nT, (by show 0 < 1000; decide), ?_⟩
      exact ⟨_, rfl, _, rfl, _, _, rfl, rfl, (hdiv _ key), _, rfl, p, C, dx, _, rfl, upd_same, T.cl, T.nB, (by show 1 < 1000; decide), fin _ key⟩
    · rw [if_neg z] at key
      refine ⟨_, rfl, _, rfl, _, rfl, _, rfl, _, _, rfl, rfl, (hdiv _ key), _, rfl, p, C, dx, [], rfl, hp, T.cl, T.nT, (by show 0 < 1000; decide), ?_⟩
      exact ⟨_, rfl, _, rfl, _, _, rfl, rfl, (hdiv _ key), _, rfl, p, C, dx, _, rfl, upd_same, T.cl, T.nB, (by show 1 < 1000; decide), fin _ key⟩
theorem ok_shr {f : Addr} {fd : FuncData} (F : Fun K "_law_shared" "_law_shared" sShared f fd) (T : TxtL mg) : FnOk P w K mg base CX0 1 f fd ["one", "other"] spShr := by
  refine F.ok scShr (fun vs H Q E h => ?_) (fun cdv A outer s H vs Q E hr h => ?_)
  · obtain ⟨t, b, rfl, _⟩ := h
    rfl
  · obtain ⟨t, b, rfl, k⟩ := h
    refine ⟨_, pss_cons (ps_set (i := 0) scShr.nd rfl (.inl rfl) (pe_callB call_abs (by rfl) T.abs (by decide +kernel) (pa_cons (pv 0) pa_nil)))
      (pss_cons (ps_set (i := 1) scShr.nd rfl (.inl rfl) (pe_callB call_abs (by rfl) T.abs (by decide +kernel) (pa_cons (pv 1) pa_nil)))
      (pss_cons (ps_while PassesOwn.never (pt_cmpR op_gt (pv 1) pe_int (nomark _))
        (pss_cons (ps_set (i := 2) scShr.nd rfl (.inl rfl) (pe_op op_mod (pe_callTy call_int1 (by rfl) T.int (by decide +kernel) (pa_cons (pv 0) pa_nil)) (pv 1)))
        (pss_cons (ps_set (i := 0) scShr.nd rfl (.inl rfl) (pv 1))
        (pss_one (ps_set (i := 1) scShr.nd rfl (.inl rfl) (pv 2))))))
      (pss_one (ps_ret (pv 0))))), ?_⟩
    refine ⟨_, rfl, t, rfl, _, rfl, b, rfl, ?_⟩
    have ab : ∀ x : Int, 0 ≤ (if x < 0 then -x else x) ∧ (if x < 0 then -x else x).natAbs = x.natAbs := fun x => by split <;> omega
    refine while_by (fun σ H' => ∃ (x y : Int) (o : Option V), σ = [some (.int x), some (.int y), o] ∧ H' = H ∧ 0 ≤ x ∧ 0 ≤ y ∧ Nat.gcd x.natAbs y.natAbs = Nat.gcd t.natAbs b.natAbs)
      (fun σ _ => match σ with | [_, some (.int y), _] => y.toNat | _ => 0)
      ⟨_, _, none, rfl, rfl, (ab t).1, (ab b).1, by rw [(ab t).2, (ab b).2]⟩ ?_ (fun σ H' R R' h q => by
        obtain ⟨v, hv, i, j, e1, e2, kk, e3, q⟩ := q
        exact ⟨v, hv, i, j, e1, e2, kk, e3, h _ _ q⟩)
    rintro σ H' ⟨x, y, o, rfl, rfl, x0, y0, g⟩
    refine ⟨_, rfl, _, _, rfl, rfl, _, rfl, ?_⟩
    refine ite2 (fun z => ?_) (fun z => ?_)
    · have z := of_decide_eq_true z
      refine ⟨_, rfl, .inl ⟨_, rfl, _, rfl, _, _, rfl, rfl, z, ?_⟩⟩
      have m0 := Int.emod_nonneg x (show y ≠ 0 by omega)
      have m1 := Int.emod_lt_of_pos x z
      refine ⟨_, rfl, _, rfl, ⟨_, _, _, rfl, rfl, y0, m0, ?_⟩, ?_⟩
      · rw [Nat.gcd_comm, ← g]
        have : (x % y).natAbs = x.natAbs % y.natAbs := by
          rw [Int.natAbs_emod_of_nonneg x0]
        rw [this, Nat.gcd_comm x.natAbs, Nat.gcd_rec y.natAbs x.natAbs]
      · show (x % y).toNat < y.toNat
        omega
    · have z : ¬ y > 0 := fun h => z (decide_eq_true h)
      have y00 : y = 0 := by omega
      subst y00
      have hg : x = RT.gg t b := by
        unfold RT.gg
        rw [← g]
        show x = ((Nat.gcd x.natAbs 0 : Nat) : Int)
        rw [Nat.gcd_zero_right]
        omega
      rw [hg]
      exact ⟨_, rfl, k⟩
theorem ok_low (B : PL.Big P base) {f fS : Addr} {fd dS : FuncData} (F : Fun K "_law_lowest" "_law_lowest" sLowest f fd) (cSh : CalN P w K mg base "_law_shared" 1 ["one", "other"] spShr fS dS) : FnOk P w K mg base CX0 33 f fd ["top", "bottom"] spPairB := by
  refine F.ok scLow (fun vs H Q E h => ?_) (fun cdv A outer s H vs Q E hr h => ?_)
  · obtain ⟨t, b, rfl, _⟩ := h
    rfl
  · obtain ⟨t, b, rfl, hb, k⟩ := h
    have hr32 : Room 32 _ := hr
    have hr1 : Room 1 _ := hr.mono (by decide)
    refine ⟨_, pss_cons (ps_set (i := 2) scLow.nd rfl (.inl rfl) (pe_call cSh.G hr1 rfl cSh.m cSh.kp cSh.b .nil pass0 (pa_cons (pv 0) (pa_cons (pv 1) pa_nil))))
      (C8.pss_cut (ps_if (pt_cmpR op_lt (pv 1) pe_int (nomark _))
        (pss_one (ps_set (i := 2) scLow.nd rfl (.inl rfl) (pe_op op_sub pe_int (pv 2))))
        pss_nil)
      (pss_one (ps_ret (pe_tup (pa_cons (pe_op (PL.op_fdivP B hr32 ⟨_, _, rfl, rfl, rfl, rfl, rfl⟩) (pv 0) (pv 2)) (pa_cons (pe_op (PL.op_fdivP B hr32 ⟨_, _, rfl, rfl, rfl, rfl, rfl⟩) (pv 1) (pv 2)) pa_nil)))))), ?_⟩
    refine ⟨_, rfl, _, rfl, t, b, rfl, ?_⟩
    refine ⟨fun σ' H2 => σ' = [some (.int t), some (.int b), some (.int (RT.byv t b))] ∧ H2 = H, ?_, ?_⟩
    · refine ⟨_, rfl, _, _, rfl, rfl, _, rfl, ?_⟩
      refine ite2 (fun z => ?_) (fun z => ?_)
      · have z := of_decide_eq_true z
        refine ⟨_, rfl, _, _, rfl, rfl, ?_, rfl⟩
        have e : (0 : Int) - RT.gg t b = RT.byv t b := by
          unfold RT.byv
          rw [if_neg (by omega)]
          omega
        show [some (V.int t), some (V.int b), some (V.int (0 - RT.gg t b))] = _
        rw [e]
      · have z : ¬ b < 0 := fun h => z (decide_eq_true h)
        refine ⟨?_, rfl⟩
        have e : RT.gg t b = RT.byv t b := by
          unfold RT.byv
          rw [if_pos (by omega)]
        show [some (V.int t), some (V.int b), some (V.int (RT.gg t b))] = _
        rw [e]
    · rintro σ' H' ⟨rfl, rfl⟩
      refine ⟨_, rfl, _, rfl, _, _, rfl, rfl, RT.byv_ne hb, _, rfl, _, rfl, _, _, rfl, rfl, RT.byv_ne hb, (by show 2 ≤ sizeLine; decide), fun r nr => ?_⟩
      exact k r _ (Same.upd nr) nr upd_same
end
end RX

set_option Elab.async false
set_option maxRecDepth 100000
/-! rows of numbers: products, what a row taken from another leaves, tables in reduced form -/
namespace VM
open RQ
/-- the sum of the products of the first w -/
def dot (u y : Nat → Rat) : Nat → Rat
  | 0 => 0
  | w + 1 => dot u y w + u w * y w
theorem dot_congr {u u' y y' : Nat → Rat} : ∀ {w : Nat}, (∀ j, j < w → u j = u' j) → (∀ j, j < w → y j = y' j) → dot u y w = dot u' y' w
  | 0, _, _ => rfl
  | w + 1, h, k => by
    unfold dot
    rw [dot_congr (fun j hj => h j (by omega)) (fun j hj => k j (by omega)), h w (by omega), k w (by omega)]
theorem dot_lin {u v y : Nat → Rat} (s c : Rat) : ∀ {w : Nat}, dot (fun j => s * (u j - c * v j)) y w = s * (dot u y w - c * dot v y w)
  | 0 => by unfold dot; grind
  | w + 1 => by
    unfold dot
    rw [dot_lin s c]
    grind
theorem dot_zero {u y : Nat → Rat} : ∀ {w : Nat}, (∀ j, j < w → u j * y j = 0) → dot u y w = 0
  | 0, _ => rfl
  | w + 1, h => by
    unfold dot
    rw [dot_zero fun j hj => h j (by omega), h w (by omega)]
    grind
/-- all but one of the products are 0 -/
theorem dot_one {u y : Nat → Rat} {k : Nat} : ∀ {w : Nat}, k < w → (∀ j, j < w → j ≠ k → u j * y j = 0) → dot u y w = u k * y k
  | 0, h, _ => absurd h (by omega)
  | w + 1, h, z => by
    unfold dot
    by_cases e : k = w
    · subst e
      rw [dot_zero fun j hj => z j (by omega) (by omega)]
      grind
    · rw [dot_one (w := w) (by omega) fun j hj ne => z j (by omega) ne, z w (by omega) (by omega)]
      grind
/-- y is 0 on all rows -/
def Ann (h w : Nat) (A : Nat → Nat → Rat) (y : Nat → Rat) : Prop := ∀ i, i < h → dot (A i) y w = 0
/-- u less so much of v that it is 0 at l, times some number -/
def Less (w l : Nat) (u v u' : Nat → Rat) : Prop := ∃ s : Rat, s ≠ 0 ∧ ∀ j, j < w → u' j = s * (u j - u l / v l * v j)
theorem Less.dot {w l : Nat} {u v u' y : Nat → Rat} (h : Less w l u v u') (hv : dot v y w = 0) : dot u' y w = 0 ↔ dot u y w = 0 := by
  obtain ⟨s, hs, e⟩ := h
  rw [dot_congr e (fun _ _ => rfl), dot_lin, hv]
  constructor
  · intro z; grind
  · intro z; rw [z]; grind
theorem Less.at {w l : Nat} {u v u' : Nat → Rat} (h : Less w l u v u') (hl : l < w) (hv : v l ≠ 0) : u' l = 0 := by
  obtain ⟨s, hs, e⟩ := h
  rw [e l hl]
  grind
theorem Less.zero {w l j : Nat} {u v u' : Nat → Rat} (h : Less w l u v u') (hj : j < w) (h1 : u j = 0) (h2 : v j = 0) : u' j = 0 := by
  obtain ⟨s, hs, e⟩ := h
  rw [e j hj, h1, h2]
  grind
theorem Less.keep {w l j : Nat} {u v u' : Nat → Rat} (h : Less w l u v u') (hj : j < w) (h1 : u j ≠ 0) (h2 : v j = 0) : u' j ≠ 0 := by
  obtain ⟨s, hs, e⟩ := h
  rw [e j hj, h2]
  intro z
  grind
theorem Less.refl {w l : Nat} {u v : Nat → Rat} (h : u l = 0) : Less w l u v u := ⟨1, by decide, fun j _ => by rw [h]; grind⟩
/-- found rows: each with its own lead, 0 ahead of it and at the leads of the earlier ones -/
structure Ech (n w : Nat) (l : Nat → Nat) (v : Nat → Nat → Rat) : Prop where
  lt : ∀ k, k < n → l k < w
  nz : ∀ k, k < n → v k (l k) ≠ 0
  zb : ∀ k, k < n → ∀ j, j < l k → v k j = 0
  zz : ∀ k, k < n → ∀ i, i < k → v k (l i) = 0
theorem Ech.inj {n w : Nat} {l : Nat → Nat} {v : Nat → Nat → Rat} (E : Ech n w l v) {i k : Nat} (hi : i < n) (hk : k < n) (e : l i = l k) : i = k := by
  rcases Nat.lt_trichotomy i k with h | h | h
  · have := E.zz k hk i h
    rw [e] at this
    exact absurd this (E.nz k hk)
  · exact h
  · have := E.zz i hi k h
    rw [← e] at this
    exact absurd this (E.nz i hi)
/-- a table in reduced form -/
structure Rref (r w : Nat) (F : Nat → Nat → Rat) (L : Nat → Nat) : Prop where
  lt : ∀ t, t < r → L t < w
  up : ∀ s t, s < t → t < r → L s < L t
  one : ∀ t, t < r → F t (L t) = 1
  off : ∀ s t, s < r → t < r → s ≠ t → F s (L t) = 0
  zb : ∀ t, t < r → ∀ j, j < L t → F t j = 0
/-! ### sizes -/
/-- bottoms that divide the column's, tops of at most b bits -/
structure VB (M : Nat → Int) (b w : Nat) (u : Nat → Rat) : Prop where
  d : ∀ j, j < w → ((u j).den : Int) ∣ M j
  n : ∀ j, j < w → Bt b (u j).num
structure MB (M : Nat → Int) (m w : Nat) : Prop where
  p : ∀ j, j < w → 0 < M j
  b : ∀ j, j < w → Bt m (M j)
theorem VB.up {M : Nat → Int} {a b w : Nat} {u : Nat → Rat} (h : VB M a w u) (l : a ≤ b) : VB M b w u := ⟨h.d, fun j hj => (h.n j hj).up l⟩
theorem VB.den {M : Nat → Int} {m b w : Nat} {u : Nat → Rat} (h : VB M b w u) (k : MB M m w) {j : Nat} (hj : j < w) : Bt m ((u j).den : Int) := by
  refine (k.b j hj).le ?_
  have := k.p j hj
  exact Nat.le_of_dvd (by omega) (Int.natAbs_dvd_natAbs.mpr (h.d j hj))
theorem dvd_bt {b : Nat} {x y : Int} (h : x ∣ y) (z : y ≠ 0) (k : Bt b y) : Bt b x := k.le (Nat.le_of_dvd (by omega) (Int.natAbs_dvd_natAbs.mpr h))
/-- the factor: its sizes -/
theorem part_bt {M : Nat → Int} {m b1 b2 w l : Nat} {u v : Nat → Rat} (hu : VB M b1 w u) (hv : VB M b2 w v) (k : MB M m w) (hl : l < w) (u0 : u l ≠ 0) (v0 : v l ≠ 0) :
    Bt (b1 + m) (u l / v l).num ∧ Bt (m + b2) ((u l / v l).den : Int) := by
  have e1 := nd (u l)
  have e2 := nd (v l)
  have d1 := den0 (u l)
  have d2 := den0 (v l)
  have n1 : (u l).num ≠ 0 := fun z => u0 (num0.mp z)
  have n2 : (v l).num ≠ 0 := fun z => v0 (num0.mp z)
  have p1 : ((u l).den : Int) ≠ 0 := by have := (u l).den_pos; omega
  have p2 : ((v l).den : Int) ≠ 0 := by have := (v l).den_pos; omega
  have e : (((u l).num * ((v l).den : Int) : Int) : Rat) = u l / v l * (((((u l).den : Int) * (v l).num) : Int) : Rat) := by
    rw [Rat.intCast_mul, Rat.intCast_mul, e1, e2]
    grind
  obtain ⟨q1, q2⟩ := den_dvd (Int.mul_ne_zero p1 n2) e
  refine ⟨dvd_bt q2 (Int.mul_ne_zero n1 p2) ((hu.n l hl).mul (hv.den k hl)), dvd_bt q1 (Int.mul_ne_zero p1 n2) ((hu.den k hl).mul (hv.n l hl))⟩
/-- the tops and bottoms that freeing makes -/
def bt (u v : Nat → Rat) (j : Nat) : Int := ((Nat.lcm (u j).den (v j).den : Nat) : Int)
def tp (u v : Nat → Rat) (l j : Nat) : Int := (u j).num * (bt u v j).fdiv ((u j).den : Int) * ((u l / v l).den : Int) - (v j).num * (bt u v j).fdiv ((v j).den : Int) * (u l / v l).num
theorem bt_pos (u v : Nat → Rat) (j : Nat) : 0 < bt u v j := by
  unfold bt
  have : 0 < Nat.lcm (u j).den (v j).den := Nat.lcm_pos (u j).den_pos (v j).den_pos
  omega
theorem bt_l (u v : Nat → Rat) (j : Nat) : ((u j).den : Int) ∣ bt u v j := by
  unfold bt
  exact Int.natCast_dvd_natCast.mpr (Nat.dvd_lcm_left _ _)
theorem bt_r (u v : Nat → Rat) (j : Nat) : ((v j).den : Int) ∣ bt u v j := by
  unfold bt
  exact Int.natCast_dvd_natCast.mpr (Nat.dvd_lcm_right _ _)
theorem bt_dvd {M : Nat → Int} {m b1 b2 w j : Nat} {u v : Nat → Rat} (hu : VB M b1 w u) (hv : VB M b2 w v) (k : MB M m w) (hj : j < w) : bt u v j ∣ M j := by
  unfold bt
  have h1 := Int.natAbs_dvd_natAbs.mpr (hu.d j hj)
  have h2 := Int.natAbs_dvd_natAbs.mpr (hv.d j hj)
  refine Int.natAbs_dvd_natAbs.mp ?_
  rw [Int.natAbs_natCast] at *
  exact Nat.lcm_dvd h1 h2
theorem tp_eq (u v : Nat → Rat) (l j : Nat) : ((tp u v l j : Int) : Rat) = ((u l / v l).den : Int) * (u j - u l / v l * v j) * ((bt u v j : Int) : Rat) := by
  have c1 := RT.fdiv_of_dvd (by have := (u j).den_pos; omega) (bt_l u v j)
  have c2 := RT.fdiv_of_dvd (by have := (v j).den_pos; omega) (bt_r u v j)
  have e1 := nd (u j)
  have e2 := nd (v j)
  have e3 := nd (u l / v l)
  have r1 : (((bt u v j).fdiv ((u j).den : Int) : Int) : Rat) * (((u j).den : Int) : Rat) = ((bt u v j : Int) : Rat) := by rw [← Rat.intCast_mul, c1]
  have r2 : (((bt u v j).fdiv ((v j).den : Int) : Int) : Rat) * (((v j).den : Int) : Rat) = ((bt u v j : Int) : Rat) := by rw [← Rat.intCast_mul, c2]
  unfold tp
  rw [Rat.intCast_sub, Rat.intCast_mul, Rat.intCast_mul, Rat.intCast_mul, Rat.intCast_mul]
  generalize (((bt u v j).fdiv ((u j).den : Int) : Int) : Rat) = q1 at *
  generalize (((bt u v j).fdiv ((v j).den : Int) : Int) : Rat) = q2 at *
  generalize ((bt u v j : Int) : Rat) = B at *
  generalize u l / v l = c at *
  generalize ((c.den : Int) : Rat) = cd at *
  generalize (((u j).den : Int) : Rat) = ud at *
  generalize (((v j).den : Int) : Rat) = vd at *
  generalize ((u j).num : Rat) = un at *
  generalize ((v j).num : Rat) = vn at *
  generalize (c.num : Rat) = cn at *
  subst e1 e2 e3
  grind
theorem quot_bt {m : Nat} {x y : Int} (h : y ∣ x) (hy : y ≠ 0) (k : Bt m x) : Bt m (x.fdiv y) := by
  have e := RT.fdiv_of_dvd hy h
  refine k.le ?_
  rw [← congrArg Int.natAbs e, Int.natAbs_mul]
  exact Nat.le_mul_of_pos_right _ (by omega)
theorem tp_bt {M : Nat → Int} {m b1 b2 w l j : Nat} {u v : Nat → Rat} (hu : VB M b1 w u) (hv : VB M b2 w v) (k : MB M m w) (hl : l < w) (hj : j < w) (u0 : u l ≠ 0) (v0 : v l ≠ 0) :
    Bt m (bt u v j) ∧ Bt (b1 + m) ((u j).num * (bt u v j).fdiv ((u j).den : Int)) ∧ Bt (b2 + m) ((v j).num * (bt u v j).fdiv ((v j).den : Int)) ∧ Bt (b1 + b2 + 2 * m + 1) (tp u v l j) := by
  obtain ⟨c1, c2⟩ := part_bt hu hv k hl u0 v0
  have B : Bt m (bt u v j) := dvd_bt (bt_dvd hu hv k hj) (by have := k.p j hj; omega) (k.b j hj)
  have q1 := quot_bt (bt_l u v j) (by have := (u j).den_pos; omega) B
  have q2 := quot_bt (bt_r u v j) (by have := (v j).den_pos; omega) B
  have t1 := (hu.n j hj).mul q1
  have t2 := (hv.n j hj).mul q2
  refine ⟨B, t1, t2, ?_⟩
  exact ((t1.mul c2).up (by omega)).sub ((t2.mul c1).up (by omega))
end VM

set_option Elab.async false
set_option maxRecDepth 100000
namespace VM
open RQ
/-- the greatest factor of the first k -/
def gf (z : Nat → Int) : Nat → Nat
  | 0 => 0
  | k + 1 => Nat.gcd (gf z k) (z k).natAbs
theorem gf_dvd {z : Nat → Int} : ∀ {k j : Nat}, j < k → ((gf z k : Nat) : Int) ∣ z j
  | 0, _, h => absurd h (by omega)
  | k + 1, j, h => by
    unfold gf
    by_cases e : j = k
    · subst e
      exact Int.natAbs_dvd_natAbs.mp (by rw [Int.natAbs_natCast]; exact Nat.gcd_dvd_right _ _)
    · have := gf_dvd (z := z) (k := k) (j := j) (by omega)
      exact Int.dvd_trans (Int.natCast_dvd_natCast.mpr (Nat.gcd_dvd_left _ _)) this
theorem gf_pos {z : Nat → Int} : ∀ {k j : Nat}, j < k → z j ≠ 0 → 0 < gf z k
  | 0, _, h, _ => absurd h (by omega)
  | k + 1, j, h, n => by
    unfold gf
    by_cases e : j = k
    · subst e
      exact Nat.gcd_pos_of_pos_right _ (by omega)
    · exact Nat.gcd_pos_of_pos_left _ (gf_pos (z := z) (k := k) (j := j) (by omega) n)
def bz (u v : Nat → Rat) (l j : Nat) : Int := if tp u v l j = 0 then 0 else bt u v j
theorem sub_cast (a b : Int) : ((a - b : Int) : Rat) = (a : Rat) - (b : Rat) := Rat.intCast_sub a b
/-- what freeing makes of each place -/
theorem freed {M : Nat → Int} {m b1 b2 w l : Nat} {u v : Nat → Rat} (hu : VB M b1 w u) (hv : VB M b2 w v) (k : MB M m w) (hl : l < w) (u0 : u l ≠ 0) (v0 : v l ≠ 0) :
    ∃ u' : Nat → Rat, Less w l u v u' ∧ VB M (b1 + b2 + 2 * m + 1) w u' ∧ ∀ j, j < w →
      (tp u v l j = 0 → u' j = 0) ∧
      (tp u v l j ≠ 0 → ((gf (tp u v l) w : Nat) : Int) ≠ 0 ∧ ((gf (bz u v l) w : Nat) : Int) ≠ 0 ∧ (bt u v j).fdiv ((gf (bz u v l) w : Nat) : Int) ≠ 0 ∧
        RT.top ((tp u v l j).fdiv ((gf (tp u v l) w : Nat) : Int)) ((bt u v j).fdiv ((gf (bz u v l) w : Nat) : Int)) = (u' j).num ∧
        RT.bot ((tp u v l j).fdiv ((gf (tp u v l) w : Nat) : Int)) ((bt u v j).fdiv ((gf (bz u v l) w : Nat) : Int)) = ((u' j).den : Int)) := by
  have cd := den0 (u l / v l)
  by_cases all : ∀ j, j < w → tp u v l j = 0
  · refine ⟨fun _ => 0, ⟨1, by decide, fun j hj => ?_⟩, ⟨fun j hj => ⟨M j, by show M j = 1 * M j; rw [Int.one_mul]⟩, fun j hj => ?_⟩, fun j hj => ⟨fun _ => rfl, fun n => absurd (all j hj) n⟩⟩
    · have e := tp_eq u v l j
      rw [all j hj] at e
      have b0 := i0 (show bt u v j ≠ 0 by have := bt_pos u v j; omega)
      have e0 : ((0 : Int) : Rat) = 0 := rfl
      rw [e0] at e
      grind
    · show Bt _ (0 : Rat).num
      exact Nat.two_pow_pos _
  · obtain ⟨i, hi, hn⟩ : ∃ i, i < w ∧ tp u v l i ≠ 0 := by
      refine Classical.byContradiction fun no => all fun j hj => Classical.byContradiction fun n => no ⟨j, hj, n⟩
    have A0 := gf_pos (z := tp u v l) hi hn
    have bn : bz u v l i ≠ 0 := by unfold bz; rw [if_neg hn]; have := bt_pos u v i; omega
    have B0 := gf_pos (z := bz u v l) hi bn
    generalize hA : gf (tp u v l) w = A at *
    generalize hB : gf (bz u v l) w = B at *
    have A1 : ((A : Nat) : Int) ≠ 0 := by omega
    have B1 : ((B : Nat) : Int) ≠ 0 := by omega
    have A2 := i0 A1
    have B2 := i0 B1
    have s0 : ((B : Int) : Rat) / ((A : Int) : Rat) * (((u l / v l).den : Int) : Rat) ≠ 0 := by
      intro z; grind
    have val : ∀ j, j < w → tp u v l j ≠ 0 → ((B : Nat) : Int) ∣ bt u v j ∧ (bt u v j).fdiv ((B : Nat) : Int) ≠ 0 ∧
        (((tp u v l j).fdiv ((A : Nat) : Int) : Int) : Rat) = ((B : Int) : Rat) / ((A : Int) : Rat) * (((u l / v l).den : Int) : Rat) * (u j - u l / v l * v j) * (((bt u v j).fdiv ((B : Nat) : Int) : Int) : Rat) := fun j hj n => by
      have dA : ((A : Nat) : Int) ∣ tp u v l j := by rw [← hA]; exact gf_dvd hj
      have dB : ((B : Nat) : Int) ∣ bt u v j := by
        have := gf_dvd (z := bz u v l) hj
        rw [hB] at this
        unfold bz at this
        rw [if_neg n] at this
        exact this
      have f1 := RT.fdiv_of_dvd A1 dA
      have f2 := RT.fdiv_of_dvd B1 dB
      have bp := bt_pos u v j
      have ne : (bt u v j).fdiv ((B : Nat) : Int) ≠ 0 := fun z => by rw [z, Int.zero_mul] at f2; omega
      refine ⟨dB, ne, ?_⟩
      have e := tp_eq u v l j
      have g1 : (((tp u v l j).fdiv ((A : Nat) : Int) : Int) : Rat) * ((A : Int) : Rat) = ((tp u v l j : Int) : Rat) := by rw [← Rat.intCast_mul, f1]
      have g2 : (((bt u v j).fdiv ((B : Nat) : Int) : Int) : Rat) * ((B : Int) : Rat) = ((bt u v j : Int) : Rat) := by rw [← Rat.intCast_mul, f2]
      rw [e] at g1
      grind
    refine ⟨fun j => ((B : Int) : Rat) / ((A : Int) : Rat) * (((u l / v l).den : Int) : Rat) * (u j - u l / v l * v j), ⟨_, s0, fun _ _ => rfl⟩, ⟨fun j hj => ?_, fun j hj => ?_⟩, fun j hj => ⟨fun z => ?_, fun n => ?_⟩⟩
    · by_cases n : tp u v l j = 0
      · have e := tp_eq u v l j
        rw [n] at e
        have b0 := i0 (show bt u v j ≠ 0 by have := bt_pos u v j; omega)
        have e0 : ((0 : Int) : Rat) = 0 := rfl
        rw [e0] at e
        have x0 : u j - u l / v l * v j = 0 := by grind
        show ((((B : Int) : Rat) / ((A : Int) : Rat) * (((u l / v l).den : Int) : Rat) * (u j - u l / v l * v j)).den : Int) ∣ M j
        rw [x0, Rat.mul_zero]
        exact ⟨M j, by show M j = 1 * M j; rw [Int.one_mul]⟩
      · obtain ⟨dB, ne, e⟩ := val j hj n
        have d1 := (den_dvd ne e).1
        refine Int.dvd_trans d1 (Int.dvd_trans ?_ (bt_dvd hu hv k hj))
        exact ⟨((B : Nat) : Int), (RT.fdiv_of_dvd B1 dB).symm⟩
    · by_cases n : tp u v l j = 0
      · have e := tp_eq u v l j
        rw [n] at e
        have b0 := i0 (show bt u v j ≠ 0 by have := bt_pos u v j; omega)
        have e0 : ((0 : Int) : Rat) = 0 := rfl
        rw [e0] at e
        have x0 : u j - u l / v l * v j = 0 := by grind
        show Bt _ (((B : Int) : Rat) / ((A : Int) : Rat) * (((u l / v l).den : Int) : Rat) * (u j - u l / v l * v j)).num
        rw [x0, Rat.mul_zero]
        exact Nat.two_pow_pos _
      · obtain ⟨dB, ne, e⟩ := val j hj n
        have d1 := (den_dvd ne e).2
        have dA : ((A : Nat) : Int) ∣ tp u v l j := by rw [← hA]; exact gf_dvd hj
        have f1 := RT.fdiv_of_dvd A1 dA
        have z1 : (tp u v l j).fdiv ((A : Nat) : Int) ≠ 0 := fun z => by rw [z, Int.zero_mul] at f1; exact n f1.symm
        exact dvd_bt d1 z1 (quot_bt dA A1 (tp_bt hu hv k hl hj u0 v0).2.2.2)
    · have e := tp_eq u v l j
      rw [z] at e
      have b0 := i0 (show bt u v j ≠ 0 by have := bt_pos u v j; omega)
      have e0 : ((0 : Int) : Rat) = 0 := rfl
      rw [e0] at e
      have x0 : u j - u l / v l * v j = 0 := by grind
      show ((B : Int) : Rat) / ((A : Int) : Rat) * (((u l / v l).den : Int) : Rat) * (u j - u l / v l * v j) = 0
      rw [x0, Rat.mul_zero]
    · obtain ⟨dB, ne, e⟩ := val j hj n
      obtain ⟨q1, q2⟩ := low ne e
      exact ⟨A1, B1, ne, q1, q2⟩
end VM

set_option Elab.async false
set_option maxRecDepth 100000
namespace VM
open RQ
/-- bits behind k steps -/
def bK (m e : Nat) : Nat → Nat
  | 0 => e - (2 * m + 1)
  | k + 1 => bK m e k + bK m e k + 2 * m + 1
theorem bK_le {m e : Nat} (h : 2 * m + 1 ≤ e) : ∀ k : Nat, bK m e k + (2 * m + 1) = 2 ^ k * e
  | 0 => by unfold bK; omega
  | k + 1 => by
    have := bK_le h k
    unfold bK
    rw [Nat.pow_succ, Nat.mul_assoc, Nat.mul_comm 2 e, ← Nat.mul_assoc, ← this]
    omega
theorem bK_mono {m e : Nat} {i k : Nat} (h : i ≤ k) : bK m e i ≤ bK m e k := by
  induction h with
  | refl => exact Nat.le_refl _
  | @step k _ ih =>
    show bK m e i ≤ bK m e k + bK m e k + 2 * m + 1
    omega
theorem bK_max {m e k R N : Nat} (h : 2 * m + 1 ≤ e) (hk : k ≤ R) (hN : 2 ^ R * e ≤ N) : bK m e k ≤ N := by
  have h1 := bK_le h R
  have h2 := bK_mono (m := m) (e := e) hk
  omega
/-- unlike numbers below w are at most w -/
theorem pigeon : ∀ {w : Nat} {xs : List Nat}, xs.Nodup → (∀ x ∈ xs, x < w) → xs.length ≤ w
  | 0, xs, _, h => by
    cases xs with
    | nil => exact Nat.le_refl _
    | cons x xs => exact absurd (h x List.mem_cons_self) (by omega)
  | w + 1, xs, nd, h => by
    have nd' : (xs.erase w).Nodup := nd.erase w
    have h' : ∀ x ∈ xs.erase w, x < w := fun x hx => by
      have h1 := h x (List.mem_of_mem_erase hx)
      have h2 : x ≠ w := fun e => by
        rw [e] at hx
        exact (List.Nodup.not_mem_erase nd) hx
      omega
    have ih := pigeon nd' h'
    have := List.length_erase_of_mem (a := w) (l := xs)
    by_cases hm : w ∈ xs
    · have := List.length_erase_of_mem hm
      omega
    · rw [List.erase_of_not_mem hm] at ih
      omega
theorem Ech.le {n w : Nat} {l : Nat → Nat} {v : Nat → Nat → Rat} (E : Ech n w l v) : n ≤ w := by
  have nd : ((List.range n).map l).Nodup := by
    rw [List.nodup_iff_pairwise_ne, List.pairwise_map]
    refine List.Pairwise.imp_of_mem ?_ (List.nodup_iff_pairwise_ne.mp List.nodup_range)
    intro a b ha hb ne e
    exact ne (E.inj (List.mem_range.mp ha) (List.mem_range.mp hb) e)
  have := pigeon nd fun x hx => by
    obtain ⟨k, hk, rfl⟩ := List.mem_map.mp hx
    exact E.lt k (List.mem_range.mp hk)
  rw [List.length_map, List.length_range] at this
  exact this
/-- one more at the end -/
def ex {α : Type} (f : Nat → α) (i : Nat) (x : α) : Nat → α := fun j => if j = i then x else f j
theorem ex_same {α : Type} (f : Nat → α) (i : Nat) (x : α) : ex f i x i = x := if_pos rfl
theorem ex_lt {α : Type} (f : Nat → α) {i j : Nat} (x : α) (h : j < i) : ex f i x j = f j := if_neg (by omega)
theorem Ech.more {n w k : Nat} {l : Nat → Nat} {v : Nat → Nat → Rat} {u : Nat → Rat} (E : Ech n w l v) (hk : k < w) (nz : u k ≠ 0) (zb : ∀ j, j < k → u j = 0) (zz : ∀ i, i < n → u (l i) = 0) : Ech (n + 1) w (ex l n k) (ex v n u) where
  lt := fun j hj => by
    by_cases e : j = n
    · subst e; rw [ex_same]; exact hk
    · rw [ex_lt l k (by omega)]; exact E.lt j (by omega)
  nz := fun j hj => by
    by_cases e : j = n
    · subst e; rw [ex_same, ex_same]; exact nz
    · rw [ex_lt l k (by omega), ex_lt v u (by omega)]; exact E.nz j (by omega)
  zb := fun j hj i hi => by
    by_cases e : j = n
    · subst e; rw [ex_same] at hi ⊢; exact zb i hi
    · rw [ex_lt l k (by omega)] at hi; rw [ex_lt v u (by omega)]; exact E.zb j (by omega) i hi
  zz := fun j hj i hi => by
    by_cases e : j = n
    · subst e; rw [ex_same, ex_lt l k hi]; exact zz i hi
    · rw [ex_lt v u (by omega), ex_lt l k (by omega)]; exact E.zz j (by omega) i hi
theorem ann_succ {n w : Nat} {v : Nat → Nat → Rat} {u y : Nat → Rat} : Ann (n + 1) w (ex v n u) y ↔ Ann n w v y ∧ dot u y w = 0 := by
  constructor
  · intro h
    refine ⟨fun i hi => ?_, ?_⟩
    · have := h i (by omega)
      rw [ex_lt v u hi] at this
      exact this
    · have := h n (by omega)
      rw [ex_same] at this
      exact this
  · intro h i hi
    by_cases e : i = n
    · subst e; rw [ex_same]; exact h.2
    · rw [ex_lt v u (by omega)]; exact h.1 i (by omega)
theorem ann_more {h w : Nat} {U : Nat → Nat → Rat} {y : Nat → Rat} : Ann (h + 1) w U y ↔ Ann h w U y ∧ dot (U h) y w = 0 := by
  constructor
  · intro z
    exact ⟨fun i hi => z i (by omega), z h (by omega)⟩
  · intro z i hi
    by_cases e : i = h
    · subst e; exact z.2
    · exact z.1 i (by omega)
/-! ### from the last row up -/
/-- rows that are done from t on: each with its lead, 0 ahead of it and at the leads behind -/
structure Done (t n w : Nat) (L : Nat → Nat) (z : Nat → Nat → Rat) : Prop where
  nz : ∀ k, t ≤ k → k < n → z k (L k) ≠ 0
  zb : ∀ k, t ≤ k → k < n → ∀ j, j < L k → z k j = 0
  zz : ∀ k, t ≤ k → k < n → ∀ i, k < i → i < n → z k (L i) = 0
theorem Done.rref {n w : Nat} {L : Nat → Nat} {z : Nat → Nat → Rat} (D : Done 0 n w L z) (lt : ∀ k, k < n → L k < w) (up : ∀ s t, s < t → t < n → L s < L t) : Rref n w (fun t j => z t j / z t (L t)) L where
  lt := lt
  up := up
  one := fun t ht => by
    have := D.nz t (Nat.zero_le _) ht
    grind
  off := fun s t hs ht ne => by
    have h0 : z s (L t) = 0 := by
      rcases Nat.lt_or_ge s t with h | h
      · exact D.zz s (Nat.zero_le _) hs t h ht
      · exact D.zb s (Nat.zero_le _) hs _ (up t s (by omega) hs)
    show z s (L t) / z s (L s) = 0
    rw [h0]
    grind
  zb := fun t ht j hj => by
    show z t j / z t (L t) = 0
    rw [D.zb t (Nat.zero_le _) ht j hj]
    grind
theorem dot_div {u y : Nat → Rat} {c : Rat} (hc : c ≠ 0) {w : Nat} : dot (fun j => u j / c) y w = 0 ↔ dot u y w = 0 := by
  have e : dot (fun j => u j / c) y w = dot (fun j => (1 / c) * (u j - 0 * (fun _ => (0 : Rat)) j)) y w := dot_congr (fun j _ => by grind) fun _ _ => rfl
  rw [e, dot_lin]
  constructor
  · intro h; grind
  · intro h; rw [h]; grind
end VM

set_option Elab.async false
set_option maxRecDepth 100000
namespace VM
open RQ
/-- leads sorted -/
theorem sorted_of {n : Nat} {l : Nat → Nat} (inj : ∀ i k, i < n → k < n → l i = l k → i = k) {ys : List Int} (hp : ys.Perm ((List.range n).map fun k => ((l k : Nat) : Int))) (hs : ys.Pairwise (· ≤ ·)) :
    ∃ L κ : Nat → Nat, ys = (List.range n).map (fun t => ((L t : Nat) : Int)) ∧ (∀ t, t < n → κ t < n ∧ l (κ t) = L t) ∧ (∀ s t, s < t → t < n → L s < L t) ∧ ∀ k, k < n → ∃ t, t < n ∧ κ t = k := by
  have len : ys.length = n := by rw [hp.length_eq, List.length_map, List.length_range]
  have nd : ys.Nodup := by
    refine hp.nodup_iff.mpr ?_
    rw [List.nodup_iff_pairwise_ne, List.pairwise_map]
    refine List.Pairwise.imp_of_mem ?_ (List.nodup_iff_pairwise_ne.mp List.nodup_range)
    intro a b ha hb ne e
    exact ne (inj a b (List.mem_range.mp ha) (List.mem_range.mp hb) (by omega))
  have at_ : ∀ t, t < n → ∃ k, k < n ∧ ys.getD t 0 = ((l k : Nat) : Int) := fun t ht => by
    have hm : ys.getD t 0 ∈ ys := by
      rw [List.getD_eq_getElem?_getD, List.getElem?_eq_getElem (by omega)]
      exact List.getElem_mem _
    obtain ⟨k, hk, e⟩ := List.mem_map.mp (hp.mem_iff.mp hm)
    exact ⟨k, List.mem_range.mp hk, e.symm⟩
  have ch : ∀ t, ∃ k, t < n → k < n ∧ ys.getD t 0 = ((l k : Nat) : Int) := fun t => by
    by_cases ht : t < n
    · obtain ⟨k, hk⟩ := at_ t ht
      exact ⟨k, fun _ => hk⟩
    · exact ⟨0, fun h => absurd h ht⟩
  obtain ⟨κ, hκ⟩ := Classical.axiomOfChoice ch
  have gL : ∀ t, t < n → ys[t]? = some ((l (κ t) : Nat) : Int) := fun t ht => by
    have := (hκ t ht).2
    rw [List.getD_eq_getElem?_getD, List.getElem?_eq_getElem (by omega)] at this
    rw [List.getElem?_eq_getElem (by omega)]
    exact congrArg some this
  refine ⟨fun t => l (κ t), κ, ?_, fun t ht => ⟨(hκ t ht).1, rfl⟩, fun s t hst ht => ?_, fun k hk => ?_⟩
  · refine List.ext_getElem? fun t => ?_
    by_cases ht : t < n
    · rw [gL t ht, List.getElem?_map, List.getElem?_range ht]
      rfl
    · rw [List.getElem?_eq_none (by omega), List.getElem?_eq_none (by rw [List.length_map, List.length_range]; omega)]
  · have h1 := List.pairwise_iff_getElem.mp hs s t (by omega) (by omega) hst
    have h2 := List.pairwise_iff_getElem.mp (List.nodup_iff_pairwise_ne.mp nd) s t (by omega) (by omega) hst
    have e1 := (List.getElem?_eq_some_iff.mp (gL s (by omega))).2
    have e2 := (List.getElem?_eq_some_iff.mp (gL t ht)).2
    rw [e1, e2] at h1 h2
    show l (κ s) < l (κ t)
    omega
  · have hm : ((l k : Nat) : Int) ∈ ys := hp.mem_iff.mpr (List.mem_map.mpr ⟨k, List.mem_range.mpr hk, rfl⟩)
    obtain ⟨t, ht, e⟩ := List.mem_iff_getElem.mp hm
    have htn : t < n := by omega
    have e2 := (List.getElem?_eq_some_iff.mp (gL t htn)).2
    refine ⟨t, htn, inj _ _ (hκ t htn).1 hk ?_⟩
    rw [e] at e2
    omega
/-- done rows turned about are a table in reduced form -/
theorem Ech.rref {n w : Nat} {L : Nat → Nat} {z : Nat → Nat → Rat} (E : Ech n w (fun j => L (n - 1 - j)) z) (up : ∀ s t, s < t → t < n → L s < L t) :
    Rref n w (fun t j => z (n - 1 - t) j / z (n - 1 - t) (L t)) L := by
  have back : ∀ t, t < n → n - 1 - (n - 1 - t) = t := fun t h => by omega
  have nz : ∀ t, t < n → z (n - 1 - t) (L t) ≠ 0 := fun t ht => by
    have := E.nz (n - 1 - t) (by omega)
    simp only [back t ht] at this
    exact this
  have zb : ∀ t, t < n → ∀ j, j < L t → z (n - 1 - t) j = 0 := fun t ht j hj => by
    refine E.zb (n - 1 - t) (by omega) j ?_
    simp only [back t ht]
    exact hj
  refine ⟨fun t ht => ?_, up, fun t ht => ?_, fun s t hs ht ne => ?_, fun t ht j hj => ?_⟩
  · have := E.lt (n - 1 - t) (by omega)
    simp only [back t ht] at this
    exact this
  · have := nz t ht
    grind
  · have h0 : z (n - 1 - s) (L t) = 0 := by
      rcases Nat.lt_or_ge s t with h | h
      · have := E.zz (n - 1 - s) (by omega) (n - 1 - t) (by omega)
        simp only [back t ht] at this
        exact this
      · exact zb s hs _ (up t s (by omega) hs)
    show z (n - 1 - s) (L t) / z (n - 1 - s) (L s) = 0
    rw [h0]
    grind
  · show z (n - 1 - t) j / z (n - 1 - t) (L t) = 0
    rw [zb t ht j hj]
    grind
/-- a place by another one of the same row: sizes -/
theorem div_bt {M : Nat → Int} {m b w l j : Nat} {u : Nat → Rat} (hu : VB M b w u) (k : MB M m w) (hl : l < w) (hj : j < w) (u0 : u l ≠ 0) : Bt (b + m) (u j / u l).num ∧ Bt (b + m) ((u j / u l).den : Int) := by
  have e1 := nd (u j)
  have e2 := nd (u l)
  have d1 := den0 (u j)
  have d2 := den0 (u l)
  have n2 : (u l).num ≠ 0 := fun z => u0 (num0.mp z)
  have p1 : ((u j).den : Int) ≠ 0 := by have := (u j).den_pos; omega
  have p2 : ((u l).den : Int) ≠ 0 := by have := (u l).den_pos; omega
  have e : (((u j).num * ((u l).den : Int) : Int) : Rat) = u j / u l * (((((u j).den : Int) * (u l).num) : Int) : Rat) := by
    rw [Rat.intCast_mul, Rat.intCast_mul, e1, e2]
    grind
  obtain ⟨q1, q2⟩ := den_dvd (Int.mul_ne_zero p1 n2) e
  refine ⟨?_, dvd_bt q1 (Int.mul_ne_zero p1 n2) (((hu.den k hj).mul (hu.n l hl)).up (by omega))⟩
  by_cases z : (u j).num = 0
  · have : u j / u l = 0 := by rw [num0.mp z]; grind
    rw [this]
    exact Nat.two_pow_pos _
  · exact dvd_bt q2 (Int.mul_ne_zero z p2) ((hu.n j hj).mul (hu.den k hl))
end VM

set_option Elab.async false
set_option maxRecDepth 100000
namespace VM
open RQ
/-- all but two of the products are 0 -/
theorem dot_two {u y : Nat → Rat} {a b : Nat} (ne : a ≠ b) : ∀ {w : Nat}, a < w → b < w → (∀ j, j < w → j ≠ a → j ≠ b → u j * y j = 0) → dot u y w = u a * y a + u b * y b
  | 0, h, _, _ => absurd h (by omega)
  | w + 1, h1, h2, z => by
    unfold dot
    by_cases ea : a = w
    · subst ea
      rw [dot_one (k := b) (by omega) fun j hj n => z j (by omega) (by omega) n]
      grind
    · by_cases eb : b = w
      · subst eb
        rw [dot_one (k := a) (by omega) fun j hj n => z j (by omega) n (by omega)]
      · rw [dot_two ne (w := w) (by omega) (by omega) fun j hj n1 n2 => z j (by omega) n1 n2, z w (by omega) (fun e => ea e.symm) (fun e => eb e.symm)]
        grind
/-- a column without a lead: what is 0 on all rows, 1 there, and else not 0 at leads of lower columns alone -/
theorem free_col {r w : Nat} {F : Nat → Nat → Rat} {L : Nat → Nat} (E : Rref r w F L) {q : Nat} (hq : q < w) (no : ∀ t, t < r → L t ≠ q) :
    ∃ y : Nat → Rat, y q = 1 ∧ (∀ j, q < j → y j = 0) ∧ (∀ t, t < r → y (L t) = - F t q) ∧ Ann r w F y := by
  have inj : ∀ s t, s < r → t < r → L s = L t → s = t := fun s t hs ht e => by
    rcases Nat.lt_trichotomy s t with h | h | h
    · have := E.up s t h ht; omega
    · exact h
    · have := E.up t s h hs; omega
  have ch : ∀ j, ∃ v : Rat, (j = q → v = 1) ∧ (∀ t, t < r → L t = j → v = - F t q) ∧ (j ≠ q → (∀ t, t < r → L t ≠ j) → v = 0) := fun j => by
    by_cases e : j = q
    · exact ⟨1, fun _ => rfl, fun t ht h => absurd (h.trans e) (no t ht), fun n => absurd e n⟩
    · by_cases h : ∃ t, t < r ∧ L t = j
      · obtain ⟨t, ht, et⟩ := h
        exact ⟨- F t q, fun z => absurd z e, fun s hs es => by rw [inj s t hs ht (by omega)], fun _ z => absurd et (z t ht)⟩
      · exact ⟨0, fun z => absurd z e, fun t ht et => absurd ⟨t, ht, et⟩ h, fun _ _ => rfl⟩
  obtain ⟨y, hy⟩ := Classical.axiomOfChoice ch
  have yL : ∀ t, t < r → y (L t) = - F t q := fun t ht => (hy (L t)).2.1 t ht rfl
  have yq : y q = 1 := (hy q).1 rfl
  refine ⟨y, yq, fun j hj => ?_, yL, fun s hs => ?_⟩
  · by_cases h : ∃ t, t < r ∧ L t = j
    · obtain ⟨t, ht, et⟩ := h
      rw [← et, yL t ht, E.zb t ht q (by omega)]
      grind
    · exact (hy j).2.2 (by omega) fun t ht et => h ⟨t, ht, et⟩
  · rw [dot_two (a := q) (b := L s) (fun e => no s hs e.symm) hq (E.lt s hs) fun j hj n1 n2 => ?_]
    · rw [yq, yL s hs, E.one s hs]
      grind
    · by_cases h : ∃ t, t < r ∧ L t = j
      · obtain ⟨t, ht, et⟩ := h
        have : s ≠ t := fun e => n2 (by rw [← et, e])
        rw [← et, E.off s t hs ht this]
        grind
      · rw [(hy j).2.2 n1 fun t ht et => h ⟨t, ht, et⟩]
        grind
/-- the rows beside one another, with what is wanted -/
def aug (r : Nat) (U : Nat → Nat → Rat) (b : Nat → Rat) (i j : Nat) : Rat := if j < r then U j i else b i
def Indep (r w : Nat) (U : Nat → Nat → Rat) : Prop := ∀ y : Nat → Rat, (∀ i, i < w → dot (fun k => U k i) y r = 0) → ∀ k, k < r → y k = 0
def Solves (r w : Nat) (U : Nat → Nat → Rat) (b x : Nat → Rat) : Prop := ∀ i, i < w → dot (fun k => U k i) x r = b i
theorem dot_aug {r i : Nat} {U : Nat → Nat → Rat} {b y : Nat → Rat} : dot (aug r U b i) y (r + 1) = dot (fun k => U k i) y r + b i * y r := by
  show dot (aug r U b i) y r + aug r U b i r * y r = _
  rw [dot_congr (u := aug r U b i) (u' := fun k => U k i) (y' := y) (fun j hj => by unfold aug; rw [if_pos hj]) fun _ _ => rfl]
  unfold aug
  rw [if_neg (Nat.lt_irrefl r)]
section
variable {c r w : Nat} {F U : Nat → Nat → Rat} {L : Nat → Nat} {b : Nat → Rat}
theorem lead_all (E : Rref c (r + 1) F L) (an : ∀ y, Ann c (r + 1) F y ↔ Ann w (r + 1) (aug r U b) y) (ind : Indep r w U) {q : Nat} (hq : q < r) : ∃ t, t < c ∧ L t = q := by
  refine Classical.byContradiction fun no => ?_
  obtain ⟨y, y1, y2, _, y4⟩ := free_col E (q := q) (by omega) fun t ht e => no ⟨t, ht, e⟩
  have := ind y (fun i hi => by
    have h := (an y).mp y4 i hi
    rw [dot_aug, y2 r hq] at h
    grind) q hq
  rw [y1] at this
  exact absurd this (by decide)
theorem lead_id (E : Rref c (r + 1) F L) (all : ∀ q, q < r → ∃ t, t < c ∧ L t = q) : ∀ t, t < r → t < c ∧ L t = t := by
  have ge : ∀ t, t < c → t ≤ L t := fun t => by
    induction t with
    | zero => intro _; exact Nat.zero_le _
    | succ t ih =>
      intro h
      have := ih (by omega)
      have := E.up t (t + 1) (by omega) h
      omega
  intro t
  induction t using Nat.strongRecOn with
  | ind t ih =>
    intro ht
    obtain ⟨s, hs, e⟩ := all t ht
    have h1 := ge s hs
    by_cases lt : s < t
    · have := (ih s lt (by omega)).2
      omega
    · have : s = t := by omega
      subst this
      exact ⟨hs, e⟩
/-- the rows of what reduced gives: 1 at their place, 0 at the others ahead of the last -/
theorem solve_row (E : Rref c (r + 1) F L) (id : ∀ t, t < r → t < c ∧ L t = t) {s : Nat} (hs : s < r) (x : Nat → Rat) : dot (F s) (fun j => if j < r then x j else -1) (r + 1) = x s - F s r := by
  have hsc := (id s hs).1
  have e1 : F s s = 1 := by
    have := E.one s hsc
    rw [(id s hs).2] at this
    exact this
  rw [dot_two (a := s) (b := r) (by omega) (by omega) (by omega) fun j hj n1 n2 => ?_]
  · simp only [if_pos hs, if_neg (Nat.lt_irrefl r), e1]
    grind
  · have hj2 : j < r := by omega
    have := E.off s j hsc (id j hj2).1 (fun e => n1 e.symm)
    rw [(id j hj2).2] at this
    rw [this]
    grind
theorem solve_yes (E : Rref c (r + 1) F L) (an : ∀ y, Ann c (r + 1) F y ↔ Ann w (r + 1) (aug r U b) y) (ind : Indep r w U) {x : Nat → Rat} (hx : Solves r w U b x) : c = r ∧ ∀ t, t < r → F t r = x t := by
  have id := lead_id E fun q hq => lead_all E an ind hq
  have A : Ann c (r + 1) F (fun j => if j < r then x j else -1) := (an _).mpr fun i hi => by
    rw [dot_aug, dot_congr (u' := fun k => U k i) (y' := x) (fun _ _ => rfl) (fun j hj => if_pos hj), hx i hi, if_neg (Nat.lt_irrefl r)]
    grind
  have ge : r ≤ c := by
    by_cases z : r = 0
    · omega
    · have := (id (r - 1) (by omega)).1
      omega
  refine ⟨?_, fun t ht => ?_⟩
  · refine Nat.le_antisymm (Nat.le_of_not_lt fun lt => ?_) ge
    have hl : L r = r := by
      have h1 := E.lt r lt
      by_cases z : r = 0
      · omega
      · have h2 := E.up (r - 1) r (by omega) lt
        rw [(id (r - 1) (by omega)).2] at h2
        omega
    have h := A r lt
    rw [dot_one (k := r) (by omega) fun j hj n => ?_] at h
    · have e1 := E.one r lt
      rw [hl] at e1
      simp only [if_neg (Nat.lt_irrefl r), e1] at h
      grind
    · rw [E.zb r lt j (by omega)]
      grind
  · have h := A t (id t ht).1
    rw [solve_row E id ht] at h
    grind
theorem solve_no (E : Rref c (r + 1) F L) (an : ∀ y, Ann c (r + 1) F y ↔ Ann w (r + 1) (aug r U b) y) (ind : Indep r w U) (no : ∀ x, ¬ Solves r w U b x) : r < c := by
  have id := lead_id E fun q hq => lead_all E an ind hq
  have ge : r ≤ c := by
    by_cases z : r = 0
    · omega
    · have := (id (r - 1) (by omega)).1
      omega
  refine Nat.lt_of_le_of_ne ge fun e => no (fun t => F t r) fun i hi => ?_
  subst e
  have A : Ann r (r + 1) F (fun j => if j < r then F j r else -1) := fun s hs => by
    rw [solve_row (x := fun j => F j r) E id hs]
    grind
  have h := (an _).mp A i hi
  rw [dot_aug, dot_congr (u' := fun k => U k i) (y' := fun t => F t r) (fun _ _ => rfl) (fun j hj => if_pos hj), if_neg (Nat.lt_irrefl r)] at h
  grind
end
end VM

set_option Elab.async false
set_option maxRecDepth 100000
namespace VM
open RQ
/-- a number over M, its top of at most T bits -/
def Ov (M : Int) (T : Nat) (q : Rat) : Prop := ∃ z : Int, (z : Rat) = q * (M : Rat) ∧ Bt T z
theorem Ov.up {M : Int} {S T : Nat} {q : Rat} (h : Ov M S q) (l : S ≤ T) : Ov M T q := let ⟨z, e, b⟩ := h; ⟨z, e, b.up l⟩
theorem bt0 (T : Nat) : Bt T 0 := Nat.two_pow_pos _
theorem Ov.den {M : Int} {T : Nat} {q : Rat} (h : Ov M T q) (m : M ≠ 0) : (q.den : Int) ∣ M ∧ Bt T q.num := by
  obtain ⟨z, e, b⟩ := h
  obtain ⟨d1, d2⟩ := den_dvd m e
  refine ⟨d1, ?_⟩
  by_cases z0 : z = 0
  · have q0 : q = 0 := by
      have m0 := i0 m
      rw [z0] at e
      have e0 : ((0 : Int) : Rat) = 0 := rfl
      rw [e0] at e
      grind
    rw [q0]
    exact bt0 T
  · exact dvd_bt d2 z0 b
theorem Ov.add {M : Int} {T : Nat} {p q : Rat} (h : Ov M T p) (k : Ov M T q) : Ov M (T + 1) (p + q) := by
  obtain ⟨z, e, b⟩ := h
  obtain ⟨y, f, c⟩ := k
  exact ⟨z + y, by rw [Rat.intCast_add, e, f]; grind, b.add c⟩
theorem Ov.mul {M N : Int} {S T : Nat} {p q : Rat} (h : Ov M S p) (k : Ov N T q) : Ov (M * N) (S + T) (p * q) := by
  obtain ⟨z, e, b⟩ := h
  obtain ⟨y, f, c⟩ := k
  exact ⟨z * y, by rw [Rat.intCast_mul, Rat.intCast_mul, e, f]; grind, b.mul c⟩
theorem Ov.lift {M N : Int} {S T : Nat} {p : Rat} (h : Ov M S p) (b : Bt T N) : Ov (M * N) (S + T) p := by
  obtain ⟨z, e, c⟩ := h
  exact ⟨z * N, by rw [Rat.intCast_mul, Rat.intCast_mul, e]; grind, c.mul b⟩
theorem Ov.zero (M : Int) (T : Nat) : Ov M T 0 := ⟨0, by rw [Rat.zero_mul]; rfl, bt0 T⟩
theorem Ov.one {M : Int} {T : Nat} (b : Bt T M) : Ov M T 1 := ⟨M, by grind, b⟩
theorem Ov.self {T : Nat} {q : Rat} (b : Bt T q.num) : Ov (q.den : Int) T q := ⟨q.num, nd q, b⟩
theorem Ov.comm {M N : Int} {T : Nat} {q : Rat} (h : Ov (M * N) T q) : Ov (N * M) T q := by rw [Int.mul_comm]; exact h
theorem den_ne (q : Rat) : (q.den : Int) ≠ 0 := by have := q.den_pos; omega
theorem Ov.vb {M : Int} {T w : Nat} {u : Nat → Rat} (m : M ≠ 0) (h : ∀ j, j < w → Ov M T (u j)) : VB (fun _ => M) T w u := ⟨fun j hj => ((h j hj).den m).1, fun j hj => ((h j hj).den m).2⟩
/-- numbers times rows, added up -/
theorem Ov.dot {M : Int} {T : Nat} {u y : Nat → Rat} : ∀ {w : Nat}, (∀ j, j < w → Ov M T (u j * y j)) → Ov M (T + w) (dot u y w)
  | 0, _ => Ov.zero M _
  | w + 1, h => by
    have i := Ov.dot (w := w) fun j hj => h j (by omega)
    exact i.add ((h w (by omega)).up (by omega))
/-! ### sums of rows -/
theorem dot_add {u y z : Nat → Rat} : ∀ {w : Nat}, dot u (fun k => y k + z k) w = dot u y w + dot u z w
  | 0 => by unfold dot; grind
  | w + 1 => by
    unfold dot
    rw [dot_add]
    grind
theorem dot_mul {u y : Nat → Rat} {c : Rat} : ∀ {w : Nat}, dot u (fun k => c * y k) w = c * dot u y w
  | 0 => by unfold dot; grind
  | w + 1 => by
    unfold dot
    rw [dot_mul]
    grind
theorem dot_comm {u y : Nat → Rat} : ∀ {w : Nat}, dot u y w = dot y u w
  | 0 => rfl
  | w + 1 => by
    unfold dot
    rw [dot_comm]
    grind
/-- a sum of sums, the other way about -/
theorem dot_swap {x y : Nat → Rat} {B : Nat → Nat → Rat} {p : Nat} : ∀ {r : Nat}, dot x (fun k => dot (B k) y p) r = dot (fun t => dot x (fun k => B k t) r) y p
  | 0 => by
    rw [show dot x (fun k => dot (B k) y p) 0 = 0 from rfl]
    exact (dot_zero fun j _ => by show dot x (fun k => B k j) 0 * y j = 0; rw [show dot x (fun k => B k j) 0 = 0 from rfl]; grind).symm
  | r + 1 => by
    show dot x (fun k => dot (B k) y p) r + x r * dot (B r) y p = _
    rw [dot_swap]
    have e : dot (fun t => dot x (fun k => B k t) (r + 1)) y p = dot (fun t => 1 * (dot x (fun k => B k t) r - (- x r) * B r t)) y p := dot_congr (fun j _ => by show dot x (fun k => B k j) r + x r * B r j = _; grind) fun _ _ => rfl
    rw [e, dot_lin]
    grind
/-- v is the sum of the basis by its numbers at the leads -/
def InSp (p w : Nat) (L : Nat → Nat) (B : Nat → Nat → Rat) (v : Nat → Rat) : Prop := ∀ i, i < w → v i = dot (fun t => v (L t)) (fun t => B t i) p
theorem insp_dot {p w n : Nat} {L : Nat → Nat} {B V : Nat → Nat → Rat} {x : Nat → Rat} (hL : ∀ t, t < p → L t < w) (h : ∀ k, k < n → InSp p w L B (V k)) : InSp p w L B (fun i => dot x (fun k => V k i) n) := fun i hi => by
  show dot x (fun k => V k i) n = dot (fun t => dot x (fun k => V k (L t)) n) (fun t => B t i) p
  rw [← dot_swap (B := fun k t => V k (L t))]
  exact dot_congr (fun _ _ => rfl) fun k hk => by
    exact h k hk i hi
theorem insp_basis {p w : Nat} {L : Nat → Nat} {B : Nat → Nat → Rat} (E : Rref p w B L) {k : Nat} (hk : k < p) : InSp p w L B (B k) := fun i hi => by
  rw [dot_one (k := k) hk fun j hj n => by rw [E.off k j hk hj (fun e => n e.symm)]; grind]
  rw [E.one k hk]
  grind
/-- rows of a triangle over the leads are independent, in any order -/
theorem indep_tri {p w : Nat} {L σ : Nat → Nat} {V : Nat → Nat → Rat} (hL : ∀ t, t < p → L t < w) (up : ∀ k j, k < p → j < p → k < j → V k (L j) = 0) (di : ∀ k, k < p → V k (L k) ≠ 0)
    (s1 : ∀ k, k < p → σ k < p) (s2 : ∀ k j, k < p → j < p → σ k = σ j → k = j) : Indep p w (fun k => V (σ k)) := by
  intro y h
  have key : ∀ d m, d + m = p → ∀ k, k < p → m ≤ σ k → y k = 0 := by
    intro d
    induction d with
    | zero => intro m e k hk l; have := s1 k hk; omega
    | succ d ih =>
      intro m e k hk l
      by_cases lt : m + 1 ≤ σ k
      · exact ih (m + 1) (by omega) k hk lt
      · have em : σ k = m := by omega
        have z := h (L m) (hL m (by omega))
        rw [dot_one (k := k) hk fun j hj n => ?_] at z
        · have := di m (by omega)
          have z : V (σ k) (L m) * y k = 0 := z
          rw [em] at z
          grind
        · show V (σ j) (L m) * y j = 0
          rcases Nat.lt_trichotomy (σ j) m with q | q | q
          · rw [up (σ j) m (s1 j hj) (by omega) q]
            grind
          · exact absurd (s2 j k hj hk (by omega)) n
          · rw [ih (m + 1) (by omega) j hj (by omega)]
            grind
  intro k hk
  exact key p 0 (by omega) k hk (Nat.zero_le _)
end VM

set_option Elab.async false
set_option maxRecDepth 100000
/-! machines in plain Lean: rows, columns, tables and numbers of words; sums over two blocks, over pairs of places -/
namespace VN
open RQ VM
section
variable (n : Nat) (M : Nat → Nat → Nat → Rat)
/-- the row r, then the steps of the letters -/
def row : (Nat → Rat) → List Nat → Nat → Rat
  | r, [] => r
  | r, x :: w => row (fun j => dot r (fun i => M x i j) n) w
/-- the steps of the letters, then the column c -/
def col (c : Nat → Rat) : List Nat → Nat → Rat
  | [] => c
  | x :: w => fun i => dot (M x i) (col c w) n
def unit : Nat → Nat → Rat := fun i j => if i = j then 1 else 0
/-- the product of the steps of the letters, from the first one on -/
def tab (w : List Nat) : Nat → Nat → Rat := fun i => row n M (unit i) w
end
variable {n : Nat} {M : Nat → Nat → Nat → Rat}
theorem row_append : ∀ {u v : List Nat} {r : Nat → Rat}, row n M r (u ++ v) = row n M (row n M r u) v
  | [], _, _ => rfl
  | x :: u, v, r => row_append (u := u)
theorem col_append {c : Nat → Rat} : ∀ {u v : List Nat}, col n M c (u ++ v) = col n M (col n M c v) u
  | [], _ => rfl
  | x :: u, v => by
    show (fun i => dot (M x i) (col n M c (u ++ v)) n) = fun i => dot (M x i) (col n M (col n M c v) u) n
    rw [col_append]
theorem row_congr : ∀ {w : List Nat} {r r' : Nat → Rat}, (∀ j, j < n → r j = r' j) → ∀ j, j < n → row n M r w j = row n M r' w j
  | [], _, _, h => h
  | x :: w, r, r', h => row_congr (w := w) fun j hj => dot_congr h fun _ _ => rfl
theorem col_congr : ∀ {w : List Nat} {c c' : Nat → Rat}, (∀ j, j < n → c j = c' j) → ∀ j, j < n → col n M c w j = col n M c' w j
  | [], _, _, h => h
  | x :: w, c, c', h => fun j hj => dot_congr (fun _ _ => rfl) fun k hk => col_congr (w := w) h k hk
/-- the number from the left and from the right -/
theorem meet {c : Nat → Rat} : ∀ {w : List Nat} {r : Nat → Rat}, dot (row n M r w) c n = dot r (col n M c w) n
  | [], _ => rfl
  | x :: w, r => by
    show dot (row n M (fun j => dot r (fun i => M x i j) n) w) c n = dot r (fun i => dot (M x i) (col n M c w) n) n
    rw [meet (w := w), dot_swap]
/-- the number of u followed by v is the row of u with the column of v -/
theorem meet_append {r c : Nat → Rat} {u v : List Nat} : dot (row n M r (u ++ v)) c n = dot (row n M r u) (col n M c v) n := by
  rw [row_append]
  exact meet
theorem unit_dot {y : Nat → Rat} {i : Nat} (h : i < n) : dot (unit i) y n = y i := by
  rw [dot_one (k := i) h fun j _ ne => by unfold unit; rw [if_neg (Ne.symm ne), Rat.zero_mul]]
  unfold unit
  rw [if_pos rfl, Rat.one_mul]
theorem dot_unit {y : Nat → Rat} {j : Nat} (h : j < n) : dot y (fun i => unit i j) n = y j := by
  rw [dot_one (k := j) h fun i _ ne => by unfold unit; rw [if_neg ne, Rat.mul_zero]]
  unfold unit
  rw [if_pos rfl, Rat.mul_one]
/-- a row of the table -/
theorem row_tab {j : Nat} (hj : j < n) : ∀ {w : List Nat} {r : Nat → Rat}, row n M r w j = dot r (fun i => tab n M w i j) n := by
  intro w
  have at_end : ∀ (r : Nat → Rat), row n M r w j = dot (row n M r w) (fun i => unit i j) n := fun r => (dot_unit hj).symm
  intro r
  rw [at_end r, meet]
  refine dot_congr (fun _ _ => rfl) fun i hi => ?_
  show col n M (fun i => unit i j) w i = row n M (unit i) w j
  rw [at_end (unit i), meet, unit_dot hi]
theorem col_tab {c : Nat → Rat} {w : List Nat} {i : Nat} (hi : i < n) : col n M c w i = dot (tab n M w i) c n := by
  show _ = dot (row n M (unit i) w) c n
  rw [meet, unit_dot hi]
theorem tab_append {u v : List Nat} {i j : Nat} (hj : j < n) : tab n M (u ++ v) i j = dot (tab n M u i) (fun k => tab n M v k j) n := by
  show row n M (unit i) (u ++ v) j = _
  rw [row_append]
  exact row_tab hj
/-! ### sums in two blocks, over pairs -/
theorem dot_two {u y : Nat → Rat} {a : Nat} : ∀ {b : Nat}, dot u y (a + b) = dot u y a + dot (fun i => u (a + i)) (fun i => y (a + i)) b
  | 0 => by
    show dot u y a = dot u y a + 0
    grind
  | b + 1 => by
    show dot u y (a + b) + u (a + b) * y (a + b) = dot u y a + (dot (fun i => u (a + i)) (fun i => y (a + i)) b + u (a + b) * y (a + b))
    rw [dot_two (b := b)]
    grind
theorem dot_scale {u y : Nat → Rat} {c : Rat} : ∀ {w : Nat}, dot (fun k => c * u k) y w = c * dot u y w
  | 0 => by unfold dot; grind
  | w + 1 => by
    unfold dot
    rw [dot_scale]
    grind
/-- the first index counts in steps of b -/
theorem dot_pairs {u y v z : Nat → Rat} {b : Nat} (hb : 0 < b) : ∀ {a : Nat}, dot (fun t => u (t / b) * v (t % b)) (fun t => y (t / b) * z (t % b)) (a * b) = dot u y a * dot v z b
  | 0 => by
    rw [Nat.zero_mul]
    unfold dot
    grind
  | a + 1 => by
    rw [Nat.succ_mul, dot_two, dot_pairs hb (a := a)]
    have e : dot (fun i => u ((a * b + i) / b) * v ((a * b + i) % b)) (fun i => y ((a * b + i) / b) * z ((a * b + i) % b)) b = u a * y a * dot v z b := by
      have d : ∀ i, i < b → (a * b + i) / b = a ∧ (a * b + i) % b = i := fun i hi => by
        rw [Nat.mul_comm]
        refine ⟨?_, ?_⟩
        · rw [Nat.mul_add_div hb, Nat.div_eq_of_lt hi, Nat.add_zero]
        · rw [Nat.mul_add_mod, Nat.mod_eq_of_lt hi]
      have e1 : dot (fun i => u ((a * b + i) / b) * v ((a * b + i) % b)) (fun i => y ((a * b + i) / b) * z ((a * b + i) % b)) b = dot (fun i => u a * v i) (fun i => y a * z i) b :=
        dot_congr (fun i hi => by rw [(d i hi).1, (d i hi).2]) fun i hi => by rw [(d i hi).1, (d i hi).2]
      rw [e1, dot_scale, dot_mul]
      grind
    rw [e]
    show _ = (dot u y a + u a * y a) * dot v z b
    grind
/-! ### machines in two blocks -/
theorem row_add : ∀ {w : List Nat} {r s : Nat → Rat}, row n M (fun j => r j + s j) w = fun j => row n M r w j + row n M s w j
  | [], _, _ => rfl
  | x :: w, r, s => by
    show row n M (fun j => dot (fun i => r i + s i) (fun i => M x i j) n) w = fun j => row n M (fun j => dot r (fun i => M x i j) n) w j + row n M (fun j => dot s (fun i => M x i j) n) w j
    rw [← row_add (w := w)]
    congr 1
    funext j
    rw [dot_comm, dot_add, dot_comm, dot_comm (u := fun i => M x i j) (y := s)]
theorem row_scale {c : Rat} : ∀ {w : List Nat} {r : Nat → Rat}, row n M (fun j => c * r j) w = fun j => c * row n M r w j
  | [], _ => rfl
  | x :: w, r => by
    show row n M (fun j => dot (fun i => c * r i) (fun i => M x i j) n) w = fun j => c * row n M (fun j => dot r (fun i => M x i j) n) w j
    rw [← row_scale (w := w)]
    congr 1
    funext j
    exact dot_scale
theorem col_add : ∀ {w : List Nat} {c d : Nat → Rat}, col n M (fun j => c j + d j) w = fun j => col n M c w j + col n M d w j
  | [], _, _ => rfl
  | x :: w, c, d => by
    show (fun i => dot (M x i) (col n M (fun j => c j + d j) w) n) = fun i => dot (M x i) (col n M c w) n + dot (M x i) (col n M d w) n
    rw [col_add (w := w)]
    funext i
    exact dot_add
theorem col_scale {c : Rat} : ∀ {w : List Nat} {d : Nat → Rat}, col n M (fun j => c * d j) w = fun j => c * col n M d w j
  | [], _ => rfl
  | x :: w, d => by
    show (fun i => dot (M x i) (col n M (fun j => c * d j) w) n) = fun i => c * dot (M x i) (col n M d w) n
    rw [col_scale (w := w)]
    funext i
    exact dot_mul
/-- the step C has A above on the left, B below on the right, U above on the right, and 0 below on the left -/
structure Tri (a b : Nat) (A B U C : Nat → Nat → Nat → Rat) : Prop where
  ul : ∀ x i j, i < a → j < a → C x i j = A x i j
  ur : ∀ x i j, i < a → j < b → C x i (a + j) = U x i j
  ll : ∀ x i j, i < b → j < a → C x (a + i) j = 0
  lr : ∀ x i j, i < b → j < b → C x (a + i) (a + j) = B x i j
section
variable {a b : Nat} {A B U C : Nat → Nat → Nat → Rat}
theorem Tri.left (t : Tri a b A B U C) : ∀ {w : List Nat} {r : Nat → Rat} {j : Nat}, j < a → row (a + b) C r w j = row a A r w j
  | [], _, _, _ => rfl
  | x :: w, r, j, hj => by
    show row (a + b) C (fun j => dot r (fun i => C x i j) (a + b)) w j = row a A (fun j => dot r (fun i => A x i j) a) w j
    rw [t.left (w := w) hj]
    refine row_congr (fun l hl => ?_) j hj
    show dot r (fun i => C x i l) (a + b) = dot r (fun i => A x i l) a
    rw [dot_two, dot_congr (w := a) (fun _ _ => rfl) (fun i hi => t.ul x i l hi hl), dot_zero (w := b) fun i hi => by rw [t.ll x i l hi hl, Rat.mul_zero]]
    grind
theorem Tri.low (t : Tri a b A B U C) {c : Nat → Rat} : ∀ {w : List Nat} {i : Nat}, i < b → col (a + b) C c w (a + i) = col b B (fun i => c (a + i)) w i
  | [], _, _ => rfl
  | x :: w, i, hi => by
    show dot (C x (a + i)) (col (a + b) C c w) (a + b) = dot (B x i) (col b B (fun i => c (a + i)) w) b
    rw [dot_two, dot_zero (w := a) fun j hj => by rw [t.ll x i j hi hj, Rat.zero_mul]]
    rw [dot_congr (w := b) (fun j hj => t.lr x i j hi hj) fun j hj => t.low (w := w) hj]
    grind
/-- all ways to part a word at a letter -/
def cuts : List Nat → List (List Nat × Nat × List Nat)
  | [] => []
  | x :: w => ([], x, w) :: (cuts w).map fun q => (x :: q.1, q.2)
def total {α : Type} (f : α → Rat) : List α → Rat
  | [] => 0
  | q :: l => f q + total f l
theorem total_map {α β : Type} {f : β → Rat} {g : α → β} : ∀ {l : List α}, total f (l.map g) = total (fun q => f (g q)) l
  | [] => rfl
  | q :: l => by
    show f (g q) + total f (l.map g) = f (g q) + total (fun q => f (g q)) l
    rw [total_map]
theorem total_congr {α : Type} {f g : α → Rat} : ∀ {l : List α}, (∀ q, q ∈ l → f q = g q) → total f l = total g l
  | [], _ => rfl
  | q :: l, h => by
    show f q + total f l = g q + total g l
    rw [h q List.mem_cons_self, total_congr fun p hp => h p (List.mem_cons_of_mem _ hp)]
/-- the right block of a row: what stood there goes on, and at each letter something comes over -/
theorem Tri.right (t : Tri a b A B U C) : ∀ {w : List Nat} {r : Nat → Rat} {j : Nat}, j < b → row (a + b) C r w (a + j) = row b B (fun i => r (a + i)) w j + total (fun q => row b B (fun l => dot (row a A r q.1) (fun i => U q.2.1 i l) a) q.2.2 j) (cuts w)
  | [], r, j, _ => by
    show r (a + j) = r (a + j) + 0
    grind
  | x :: w, r, j, hj => by
    show row (a + b) C (fun j => dot r (fun i => C x i j) (a + b)) w (a + j) = _
    rw [t.right (w := w) hj]
    have e1 : ∀ l, l < b → dot r (fun i => C x i (a + l)) (a + b) = dot r (fun i => U x i l) a + dot (fun i => r (a + i)) (fun i => B x i l) b := fun l hl => by
      rw [dot_two, dot_congr (w := a) (fun _ _ => rfl) (fun i hi => t.ur x i l hi hl), dot_congr (w := b) (fun _ _ => rfl) (fun i hi => t.lr x i l hi hl)]
    have e2 : row b B (fun l => dot r (fun i => C x i (a + l)) (a + b)) w j = row b B (fun l => dot r (fun i => U x i l) a) w j + row b B (fun l => dot (fun i => r (a + i)) (fun i => B x i l) b) w j := by
      rw [row_congr e1 j hj, row_add]
    have e3 : total (fun q => row b B (fun l => dot (row a A (fun j => dot r (fun i => C x i j) (a + b)) q.1) (fun i => U q.2.1 i l) a) q.2.2 j) (cuts w) = total (fun q => row b B (fun l => dot (row a A r (x :: q.1)) (fun i => U q.2.1 i l) a) q.2.2 j) (cuts w) :=
      total_congr fun q _ => row_congr (fun l hl => dot_congr (fun i hi => by
        show row a A (fun j => dot r (fun i => C x i j) (a + b)) q.1 i = row a A (fun j => dot r (fun i => A x i j) a) q.1 i
        refine row_congr (fun m hm => ?_) i hi
        show dot r (fun i => C x i m) (a + b) = dot r (fun i => A x i m) a
        rw [dot_two, dot_congr (w := a) (fun _ _ => rfl) (fun i hi => t.ul x i m hi hm), dot_zero (w := b) fun i hi => by rw [t.ll x i m hi hm, Rat.mul_zero]]
        grind) fun _ _ => rfl) j hj
    rw [e2, e3]
    show _ = row b B (fun l => dot (fun i => r (a + i)) (fun i => B x i l) b) w j + (row b B (fun l => dot r (fun i => U x i l) a) w j + total (fun q => row b B (fun l => dot (row a A r q.1) (fun i => U q.2.1 i l) a) q.2.2 j) ((cuts w).map fun q => (x :: q.1, q.2)))
    rw [total_map]
    grind
end
end VN

set_option Elab.async false
set_option maxRecDepth 100000
/-! machines in plain Lean: pairs of states, all choices of places, words backwards, words for letters, all words of a length -/
namespace VN
open RQ VM
variable {n a b : Nat} {M A B C : Nat → Nat → Nat → Rat}
theorem total_append {α : Type} {f : α → Rat} : ∀ {l m : List α}, total f (l ++ m) = total f l + total f m
  | [], m => by
    show total f m = 0 + total f m
    grind
  | q :: l, m => by
    show f q + total f (l ++ m) = f q + total f l + total f m
    rw [total_append]
    grind
/-- the row with r (t / b) times s (t mod b) at t -/
def pair (b : Nat) (r s : Nat → Rat) : Nat → Rat := fun t => r (t / b) * s (t % b)
theorem pair_at {r s : Nat → Rat} {i j : Nat} (h : j < b) : pair b r s (i * b + j) = r i * s j := by
  unfold pair
  rw [Nat.mul_comm, Nat.mul_add_div (by omega), Nat.div_eq_of_lt h, Nat.add_zero, Nat.mul_add_mod, Nat.mod_eq_of_lt h]
theorem div_lt {t : Nat} (h : t < a * b) : t / b < a := Nat.div_lt_of_lt_mul (by rw [Nat.mul_comm]; exact h)
theorem mod_lt {t : Nat} (h : t < a * b) : t % b < b := Nat.mod_lt _ (by
  rcases Nat.eq_zero_or_pos b with z | z
  · rw [z, Nat.mul_zero] at h
    omega
  · exact z)
theorem pos_of {t : Nat} (h : t < a * b) : 0 < b := by
  have := mod_lt h
  omega
/-- the product of two machines -/
theorem both (h : ∀ x s t, s < a * b → t < a * b → C x s t = A x (s / b) (t / b) * B x (s % b) (t % b)) : ∀ {w : List Nat} {r s : Nat → Rat} {t : Nat}, t < a * b → row (a * b) C (pair b r s) w t = row a A r w (t / b) * row b B s w (t % b)
  | [], _, _, _, _ => rfl
  | x :: w, r, s, t, ht => by
    show row (a * b) C (fun j => dot (pair b r s) (fun i => C x i j) (a * b)) w t = row a A (fun j => dot r (fun i => A x i j) a) w (t / b) * row b B (fun j => dot s (fun i => B x i j) b) w (t % b)
    rw [← both h (w := w) ht]
    refine row_congr (fun j hj => ?_) t ht
    show dot (pair b r s) (fun i => C x i j) (a * b) = dot r (fun i => A x i (j / b)) a * dot s (fun i => B x i (j % b)) b
    rw [← dot_pairs (pos_of ht)]
    exact dot_congr (fun _ _ => rfl) fun i hi => h x i j hi hj
/-- all ways to deal the letters of a word out to two words -/
def deals : List Nat → List (List Nat × List Nat)
  | [] => [([], [])]
  | x :: w => ((deals w).map fun q => (x :: q.1, q.2)) ++ (deals w).map fun q => (q.1, x :: q.2)
/-- a letter goes to the one machine or to the other -/
theorem dealt (h : ∀ x s t, s < a * b → t < a * b → C x s t = A x (s / b) (t / b) * unit (s % b) (t % b) + unit (s / b) (t / b) * B x (s % b) (t % b)) :
    ∀ {w : List Nat} {r s : Nat → Rat} {t : Nat}, t < a * b → row (a * b) C (pair b r s) w t = total (fun q => row a A r q.1 (t / b) * row b B s q.2 (t % b)) (deals w)
  | [], r, s, t, _ => by
    show r (t / b) * s (t % b) = r (t / b) * s (t % b) + 0
    grind
  | x :: w, r, s, t, ht => by
    show row (a * b) C (fun j => dot (pair b r s) (fun i => C x i j) (a * b)) w t = total (fun q => row a A r q.1 (t / b) * row b B s q.2 (t % b)) (((deals w).map fun q => (x :: q.1, q.2)) ++ (deals w).map fun q => (q.1, x :: q.2))
    rw [total_append, total_map, total_map]
    show _ = total (fun q => row a A (fun j => dot r (fun i => A x i j) a) q.1 (t / b) * row b B s q.2 (t % b)) (deals w) + total (fun q => row a A r q.1 (t / b) * row b B (fun j => dot s (fun i => B x i j) b) q.2 (t % b)) (deals w)
    rw [← dealt h (w := w) ht, ← dealt h (w := w) ht]
    have e : ∀ j, j < a * b → dot (pair b r s) (fun i => C x i j) (a * b) = pair b (fun j => dot r (fun i => A x i j) a) s j + pair b r (fun j => dot s (fun i => B x i j) b) j := fun j hj => by
      rw [dot_congr (w := a * b) (fun _ _ => rfl) fun i hi => h x i j hi hj, dot_add]
      have e1 : dot (pair b r s) (fun i => A x (i / b) (j / b) * unit (i % b) (j % b)) (a * b) = dot r (fun i => A x i (j / b)) a * dot s (fun i => unit i (j % b)) b := dot_pairs (u := r) (y := fun i => A x i (j / b)) (v := s) (z := fun i => unit i (j % b)) (a := a) (pos_of ht)
      have e2 : dot (pair b r s) (fun i => unit (i / b) (j / b) * B x (i % b) (j % b)) (a * b) = dot r (fun i => unit i (j / b)) a * dot s (fun i => B x i (j % b)) b := dot_pairs (u := r) (y := fun i => unit i (j / b)) (v := s) (z := fun i => B x i (j % b)) (a := a) (pos_of ht)
      rw [e1, e2, dot_unit (mod_lt hj), dot_unit (div_lt hj)]
      rfl
    rw [row_congr e t ht, row_add]
/-- the steps turned about: words backwards -/
theorem turned : ∀ {w : List Nat} {r : Nat → Rat}, row n (fun x i j => M x j i) r w = col n M r w.reverse
  | [], _ => rfl
  | x :: w, r => by
    show row n (fun x i j => M x j i) (fun j => dot r (fun i => M x j i) n) w = _
    rw [turned (w := w), List.reverse_cons, col_append]
    congr 1
    funext j
    exact dot_comm
/-- words for letters -/
theorem putted {f : Nat → List Nat} (h : ∀ x i j, i < n → j < n → C x i j = tab n M (f x) i j) : ∀ {w : List Nat} {r : Nat → Rat} {j : Nat}, j < n → row n C r w j = row n M r (w.flatMap f) j
  | [], _, _, _ => rfl
  | x :: w, r, j, hj => by
    show row n C (fun j => dot r (fun i => C x i j) n) w j = _
    rw [List.flatMap_cons, row_append, putted h (w := w) hj]
    refine row_congr (fun l hl => ?_) j hj
    show dot r (fun i => C x i l) n = row n M r (f x) l
    rw [row_tab hl]
    exact dot_congr (fun _ _ => rfl) fun i hi => h x i l hi hl
/-- all words of m letters of an alphabet of k -/
def words (k : Nat) : Nat → List (List Nat)
  | 0 => [[]]
  | m + 1 => (List.range k).flatMap fun x => (words k m).map (x :: ·)
theorem total_flat {α β : Type} {f : β → Rat} {g : α → List β} : ∀ {l : List α}, total f (l.flatMap g) = total (fun x => total f (g x)) l
  | [] => rfl
  | q :: l => by
    rw [List.flatMap_cons, total_append, total_flat]
    rfl
theorem row_total {α : Type} {r : α → Nat → Rat} {w : List Nat} : ∀ {l : List α} {j : Nat}, j < n → row n M (fun j => total (fun x => r x j) l) w j = total (fun x => row n M (r x) w j) l
  | [], j, hj => by
    have z : ∀ {w : List Nat}, row n M (fun _ => 0) w = fun _ => 0 := by
      intro w
      have := row_scale (n := n) (M := M) (c := 0) (w := w) (r := fun _ => 0)
      simp only [Rat.zero_mul] at this
      exact this
    show row n M (fun _ => 0) w j = 0
    rw [z]
  | q :: l, j, hj => by
    show row n M (fun j => r q j + total (fun x => r x j) l) w j = row n M (r q) w j + total (fun x => row n M (r x) w j) l
    rw [row_add]
    show row n M (r q) w j + row n M (fun j => total (fun x => r x j) l) w j = _
    rw [row_total (l := l) hj]
theorem dot_total {α : Type} {y : α → Nat → Rat} {r : Nat → Rat} : ∀ {l : List α}, dot r (fun i => total (fun x => y x i) l) n = total (fun x => dot r (y x) n) l
  | [] => dot_zero fun _ _ => Rat.mul_zero _
  | q :: l => by
    show dot r (fun i => y q i + total (fun x => y x i) l) n = dot r (y q) n + total (fun x => dot r (y x) n) l
    rw [dot_add, dot_total]
/-- one letter, whose step is the sum of the steps: all words of a length at once -/
theorem summed {k z : Nat} (h : ∀ i j, i < n → j < n → C z i j = total (fun x => M x i j) (List.range k)) : ∀ {m : Nat} {r : Nat → Rat} {j : Nat}, j < n → row n C r (List.replicate m z) j = total (fun w => row n M r w j) (words k m)
  | 0, r, j, _ => by
    show r j = r j + 0
    grind
  | m + 1, r, j, hj => by
    rw [List.replicate_succ]
    show row n C (fun j => dot r (fun i => C z i j) n) (List.replicate m z) j = total (fun w => row n M r w j) ((List.range k).flatMap fun x => (words k m).map (x :: ·))
    rw [total_flat]
    have e : ∀ l, l < n → dot r (fun i => C z i l) n = total (fun x => dot r (fun i => M x i l) n) (List.range k) := fun l hl => by
      rw [dot_congr (w := n) (fun _ _ => rfl) fun i hi => h i l hi hl, dot_total]
    rw [row_congr e j hj, row_total hj]
    refine total_congr fun x _ => ?_
    rw [summed h (m := m) hj, total_map]
    rfl
/-- all ways to part a word behind at least one letter -/
def heads : List Nat → List (List Nat × List Nat)
  | [] => []
  | x :: w => ([x], w) :: (heads w).map fun q => (x :: q.1, q.2)
theorem row_mix {r s : Nat → Rat} {c : Rat} {w : List Nat} {j : Nat} : row n M (fun j => r j + c * s j) w j = row n M r w j + c * row n M s w j := by
  rw [row_add]
  show row n M r w j + row n M (fun j => c * s j) w j = _
  rw [row_scale]
/-- behind each letter the start s comes anew, as often as the end e says, which the start itself does not meet -/
theorem again {s e : Nat → Rat} (h : ∀ x i j, i < n → j < n → C x i j = A x i j + dot (A x i) e n * s j) (z : dot s e n = 0) :
    ∀ {w : List Nat} {r : Nat → Rat} {j : Nat}, j < n → row n C r w j = row n A r w j + total (fun q => dot (row n C r q.1) e n * row n A s q.2 j) (heads w)
  | [], r, j, _ => by
    show r j = r j + 0
    grind
  | x :: w, r, j, hj => by
    have step : ∀ l, l < n → dot r (fun i => C x i l) n = dot r (fun i => A x i l) n + dot (fun j => dot r (fun i => A x i j) n) e n * s l := fun l hl => by
      rw [dot_congr (w := n) (fun _ _ => rfl) fun i hi => h x i l hi hl, dot_add]
      congr 1
      have e1 : dot r (fun i => dot (A x i) e n * s l) n = dot r (fun i => s l * dot (A x i) e n) n := dot_congr (fun _ _ => rfl) fun i _ => Rat.mul_comm _ _
      rw [e1, dot_mul, dot_swap]
      exact Rat.mul_comm _ _
    have r1 : dot (fun j => dot r (fun i => C x i j) n) e n = dot (fun j => dot r (fun i => A x i j) n) e n := by
      rw [dot_congr step fun _ _ => rfl, dot_comm, dot_add, dot_comm]
      have e1 : dot e (fun l => dot (fun j => dot r (fun i => A x i j) n) e n * s l) n = 0 := by
        rw [dot_mul, dot_comm (u := e) (y := s), z, Rat.mul_zero]
      rw [e1]
      grind
    show row n C (fun j => dot r (fun i => C x i j) n) w j = row n A (fun j => dot r (fun i => A x i j) n) w j + (dot (fun j => dot r (fun i => C x i j) n) e n * row n A s w j + total (fun q => dot (row n C r q.1) e n * row n A s q.2 j) ((heads w).map fun q => (x :: q.1, q.2)))
    rw [again h z (w := w) hj, total_map, r1]
    have e2 : row n A (fun j => dot r (fun i => C x i j) n) w j = row n A (fun j => dot r (fun i => A x i j) n) w j + dot (fun j => dot r (fun i => A x i j) n) e n * row n A s w j := by
      rw [row_congr step j hj]
      exact row_mix
    rw [e2]
    show _ + total (fun q => dot (row n C (fun j => dot r (fun i => C x i j) n) q.1) e n * row n A s q.2 j) (heads w) = _
    have e3 : total (fun q => dot (row n C r (x :: q.1)) e n * row n A s q.2 j) (heads w) = total (fun q => dot (row n C (fun j => dot r (fun i => C x i j) n) q.1) e n * row n A s q.2 j) (heads w) := rfl
    rw [← e3]
    grind
end VN

set_option Elab.async false
set_option maxRecDepth 100000
/-! sizes of the rows, columns and numbers of words -/
namespace VN
open RQ VM
def prod (N : Nat → Int) : List Nat → Int
  | [] => 1
  | x :: w => N x * prod N w
theorem prod_ne {N : Nat → Int} (h : ∀ x, N x ≠ 0) : ∀ {w : List Nat}, prod N w ≠ 0
  | [] => by show (1 : Int) ≠ 0; decide
  | x :: w => Int.mul_ne_zero (h x) (prod_ne h)
variable {n a : Nat} {M : Nat → Nat → Nat → Rat} {N : Nat → Int}
theorem row_ov (h : ∀ x i j, i < n → j < n → Ov (N x) a (M x i j)) : ∀ {w : List Nat} {D : Int} {T : Nat} {r : Nat → Rat}, (∀ i, i < n → Ov D T (r i)) → ∀ j, j < n → Ov (D * prod N w) (T + (a + n) * w.length) (row n M r w j)
  | [], D, T, r, hr, j, hj => by
    show Ov (D * 1) (T + (a + n) * 0) (r j)
    rw [Int.mul_one, Nat.mul_zero, Nat.add_zero]
    exact hr j hj
  | x :: w, D, T, r, hr, j, hj => by
    have s : ∀ j, j < n → Ov (D * N x) (T + a + n) (dot r (fun i => M x i j) n) := fun j hj => Ov.dot fun i hi => (hr i hi).mul (h x i j hi hj)
    have e := row_ov h (w := w) s j hj
    have e1 : D * prod N (x :: w) = D * N x * prod N w := (Int.mul_assoc _ _ _).symm
    have e2 : T + (a + n) * (x :: w).length = T + a + n + (a + n) * w.length := by
      rw [List.length_cons, Nat.mul_succ]
      omega
    rw [e1, e2]
    exact e
theorem col_ov (h : ∀ x i j, i < n → j < n → Ov (N x) a (M x i j)) {D : Int} {T : Nat} {c : Nat → Rat} (hc : ∀ i, i < n → Ov D T (c i)) : ∀ {w : List Nat}, ∀ i, i < n → Ov (prod N w * D) ((a + n) * w.length + T) (col n M c w i)
  | [], i, hi => by
    show Ov (1 * D) ((a + n) * 0 + T) (c i)
    rw [Int.one_mul, Nat.mul_zero, Nat.zero_add]
    exact hc i hi
  | x :: w, i, hi => by
    have s := Ov.dot (w := n) (u := M x i) (y := col n M c w) (M := N x * (prod N w * D)) (T := a + ((a + n) * w.length + T)) fun j hj => (h x i j hi hj).mul (col_ov h hc (w := w) j hj)
    have e1 : prod N (x :: w) * D = N x * (prod N w * D) := Int.mul_assoc _ _ _
    have e2 : (a + n) * (x :: w).length + T = a + ((a + n) * w.length + T) + n := by
      rw [List.length_cons, Nat.mul_succ]
      omega
    rw [e1, e2]
    exact s
/-- and what is summed up halfway -/
theorem half_ov {D E : Int} {S T : Nat} {r c : Nat → Rat} (hr : ∀ i, i < n → Ov D S (r i)) (hc : ∀ i, i < n → Ov E T (c i)) {m : Nat} (hm : m ≤ n) : Ov (D * E) (S + T + n) (dot r c m) :=
  (Ov.dot (w := m) fun i hi => (hr i (Nat.lt_of_lt_of_le hi hm)).mul (hc i (Nat.lt_of_lt_of_le hi hm))).up (Nat.add_le_add_left hm _)
/-- the product of the bottoms of the first k numbers -/
def dens (f : Nat → Rat) : Nat → Int
  | 0 => 1
  | k + 1 => dens f k * ((f k).den : Int)
theorem dens_ne {f : Nat → Rat} : ∀ {k : Nat}, dens f k ≠ 0
  | 0 => by show (1 : Int) ≠ 0; decide
  | k + 1 => Int.mul_ne_zero dens_ne (den_ne _)
theorem dens_bt {f : Nat → Rat} {b : Nat} : ∀ {k : Nat}, (∀ i, i < k → Bt b ((f i).den : Int)) → Bt (b * k + 1) (dens f k)
  | 0, _ => by
    show (1 : Nat) < 2 ^ (b * 0 + 1)
    rw [Nat.mul_zero]
    decide
  | k + 1, h => by
    have e := (dens_bt (k := k) fun i hi => h i (by omega)).mul (h k (by omega))
    rw [Nat.mul_succ, Nat.add_right_comm]
    exact e
theorem dens_ov {f : Nat → Rat} {b : Nat} : ∀ {k : Nat}, (∀ i, i < k → Bt b (f i).num ∧ Bt b ((f i).den : Int)) → ∀ i, i < k → Ov (dens f k) (b + (b * k + 1)) (f i)
  | 0, _, i, hi => absurd hi (Nat.not_lt_zero _)
  | k + 1, h, i, hi => by
    rw [Nat.mul_succ]
    rcases Nat.lt_or_eq_of_le (Nat.le_of_lt_succ hi) with q | q
    · have e := (dens_ov (k := k) (fun i hi => h i (by omega)) i q).lift (h k (by omega)).2
      exact e.up (by omega)
    · subst q
      have e := ((Ov.self (h i (by omega)).1).lift (dens_bt (f := f) (b := b) (k := i) fun j hj => (h j (by omega)).2)).comm
      exact e.up (by omega)
/-- .. of a table of n rows of n numbers, read row by row -/
theorem table_ov {n b : Nat} {A : Nat → Nat → Rat} (h : ∀ i j, i < n → j < n → Bt b (A i j).num ∧ Bt b ((A i j).den : Int)) : ∃ N : Int, N ≠ 0 ∧ Bt (b * (n * n) + 1) N ∧ ∀ i j, i < n → j < n → Ov N (b + (b * (n * n) + 1)) (A i j) := by
  have at_ : ∀ t, t < n * n → t / n < n ∧ t % n < n := fun t ht => ⟨div_lt ht, mod_lt ht⟩
  refine ⟨dens (fun t => A (t / n) (t % n)) (n * n), dens_ne, dens_bt fun t ht => (h _ _ (at_ t ht).1 (at_ t ht).2).2, fun i j hi hj => ?_⟩
  have lt : i * n + j < n * n := by
    have : (i + 1) * n ≤ n * n := Nat.mul_le_mul_right n hi
    rw [Nat.succ_mul] at this
    omega
  have e := dens_ov (f := fun t => A (t / n) (t % n)) (b := b) (k := n * n) (fun t ht => h _ _ (at_ t ht).1 (at_ t ht).2) (i * n + j) lt
  have d : (i * n + j) / n = i ∧ (i * n + j) % n = j := by
    have hp : 0 < n := by omega
    rw [Nat.mul_comm]
    exact ⟨by rw [Nat.mul_add_div hp, Nat.div_eq_of_lt hj, Nat.add_zero], by rw [Nat.mul_add_mod, Nat.mod_eq_of_lt hj]⟩
  have e : Ov _ _ (A ((i * n + j) / n) ((i * n + j) % n)) := e
  rw [d.1, d.2] at e
  exact e
end VN

set_option Elab.async false
set_option maxRecDepth 100000
namespace RX
open PySem L2
/-! ### nested data: what stands at a value, and that it stays -/
inductive Dat where
  | non
  | bl (b : Bool)
  | int (i : Int)
  | str (s : Str)
  | rat (q : Rat)
  | tup (ds : List Dat)
  | lst (ds : List Dat)
  | sq (ds : List Dat)
/-- the value holds the data; none of its objects is in N -/
inductive At (C : Addr) (N : Addr → Prop) (H : Hp) : V → Dat → Prop where
  | non : At C N H .non .non
  | bl (b : Bool) : At C N H (.bl b) (.bl b)
  | int (i : Int) : At C N H (.int i) (.int i)
  | str (s : Str) : At C N H (.str s) (.str s)
  | rat {p : Addr} {q : Rat} (h : RatAt C H p q.num (q.den : Int)) (n : ¬ N p) : At C N H (.ref p) (.rat q)
  | tup {p : Addr} {xs : List V} {ds : List Dat} (h : H p = some (.tup xs)) (n : ¬ N p) (l : xs.length = ds.length) (e : ∀ (i : Nat) (x : V) (d : Dat), xs[i]? = some x → ds[i]? = some d → At C N H x d) : At C N H (.ref p) (.tup ds)
  | lst {p : Addr} {xs : List V} {ds : List Dat} (h : H p = some (.lst xs)) (n : ¬ N p) (l : xs.length = ds.length) (e : ∀ (i : Nat) (x : V) (d : Dat), xs[i]? = some x → ds[i]? = some d → At C N H x d) : At C N H (.ref p) (.lst ds)
  | sq {p : Addr} {xs : List V} {ds : List Dat} (h : H p = some (.tup xs) ∨ H p = some (.lst xs)) (n : ¬ N p) (l : xs.length = ds.length) (e : ∀ (i : Nat) (x : V) (d : Dat), xs[i]? = some x → ds[i]? = some d → At C N H x d) : At C N H (.ref p) (.sq ds)
/-- all but what N holds stays -/
structure Keep (N : Addr → Prop) (H H' : Hp) : Prop where
  k : ∀ b o, H b = some o → ¬ N b → H' b = some o
  a : ∀ b, H b ≠ none → H' b ≠ none
def Alc (N : Addr → Prop) (H : Hp) : Prop := ∀ b, N b → H b ≠ none
/-- N and one more -/
def And1 (N : Addr → Prop) (D : Addr) : Addr → Prop := fun b => N b ∨ b = D
def Emp : Addr → Prop := fun _ => False
theorem Keep.refl {N : Addr → Prop} {H : Hp} : Keep N H H := ⟨fun _ _ h _ => h, fun _ h => h⟩
theorem Keep.trans {N : Addr → Prop} {H H1 H2 : Hp} (x : Keep N H H1) (y : Keep N H1 H2) : Keep N H H2 := ⟨fun b o h n => y.k b o (x.k b o h n) n, fun b h => y.a b (x.a b h)⟩
theorem Same.keep {N : Addr → Prop} {H H' : Hp} (s : Same H H') : Keep N H H' := ⟨fun b o h _ => s b o h, fun b h => by
  cases e : H b with
  | none => exact absurd e h
  | some o => rw [s b o e]; intro z; cases z⟩
theorem Keep.same {H H' : Hp} (k : Keep Emp H H') : Same H H' := fun b o h => k.k b o h id
theorem Keep.more {N M : Addr → Prop} {H H' : Hp} (k : Keep N H H') (s : ∀ b, N b → M b) : Keep M H H' := ⟨fun b o h n => k.k b o h fun z => n (s b z), k.a⟩
theorem Keep.upd {N : Addr → Prop} {H : Hp} {D : Addr} {o : HO} (h : N D) : Keep N H (L2.upd H D o) := ⟨fun b o' e n => by
  rw [upd_ne fun z => n (by rw [z]; exact h)]
  exact e, fun b e => by
  by_cases z : b = D
  · rw [z, upd_same]; intro y; cases y
  · rw [upd_ne z]; exact e⟩
theorem Keep.new {N : Addr → Prop} {H : Hp} {D : Addr} {o : HO} (h : H D = none) : Keep N H (L2.upd H D o) := Same.keep (Same.upd h)
theorem Keep.but {N : Addr → Prop} {H H' : Hp} {a : Addr} (b : But a H H') (n : N a) (s : H' a ≠ none) : Keep N H H' := ⟨fun c o h m => b c o h fun z => m (by rw [z]; exact n), fun c h => by
  by_cases e : c = a
  · rw [e]; exact s
  · cases q : H c with
    | none => exact absurd q h
    | some o => rw [b c o q e]; intro y; cases y⟩
theorem Keep.free {N : Addr → Prop} {H H' : Hp} {r : Addr} (k : Keep N H H') (h : H' r = none) : H r = none := by
  cases e : H r with
  | none => rfl
  | some o => exact absurd h (k.a r (by rw [e]; intro z; cases z))
theorem Alc.keep {N M : Addr → Prop} {H H' : Hp} (a : Alc N H) (k : Keep M H H') : Alc N H' := fun b n => k.a b (a b n)
theorem Alc.fresh {N : Addr → Prop} {H : Hp} {r : Addr} (a : Alc N H) (h : H r = none) : ¬ N r := fun n => a r n h
theorem Alc.and {N : Addr → Prop} {H : Hp} {D : Addr} (a : Alc N H) (h : H D ≠ none) : Alc (And1 N D) H := fun b n => by
  rcases n with n | n
  · exact a b n
  · rw [n]; exact h
theorem alc_emp {H : Hp} : Alc Emp H := fun _ h => h.elim
section
variable {C : Addr} {N M : Addr → Prop} {H H' : Hp}
theorem At.keep {v : V} {d : Dat} (h : At C N H v d) (k : Keep N H H') : At C N H' v d := by
  induction h with
  | non => exact .non
  | bl b => exact .bl b
  | int i => exact .int i
  | str s => exact .str s
  | rat h n => obtain ⟨dx, h⟩ := h; exact .rat ⟨dx, k.k _ _ h n⟩ n
  | tup h n l e ih => exact .tup (k.k _ _ h n) n l ih
  | lst h n l e ih => exact .lst (k.k _ _ h n) n l ih
  | sq h n l e ih => exact .sq (h.imp (fun h => k.k _ _ h n) fun h => k.k _ _ h n) n l ih
theorem At.same {v : V} {d : Dat} (h : At C N H v d) (s : Same H H') : At C N H' v d := h.keep (Same.keep s)
/-- a set that holds no more of what is there -/
theorem At.grow {v : V} {d : Dat} (h : At C N H v d) (s : ∀ b, M b → N b ∨ H b = none) : At C M H v d := by
  induction h with
  | non => exact .non
  | bl b => exact .bl b
  | int i => exact .int i
  | str s => exact .str s
  | rat h n =>
    refine .rat h fun z => ?_
    rcases s _ z with y | y
    · exact n y
    · obtain ⟨dx, h⟩ := h; rw [y] at h; cases h
  | tup h n l e ih =>
    refine .tup h (fun z => ?_) l ih
    rcases s _ z with y | y
    · exact n y
    · rw [y] at h; cases h
  | lst h n l e ih =>
    refine .lst h (fun z => ?_) l ih
    rcases s _ z with y | y
    · exact n y
    · rw [y] at h; cases h
  | sq h n l e ih =>
    refine .sq h (fun z => ?_) l ih
    rcases s _ z with y | y
    · exact n y
    · rw [y] at h; rcases h with h | h <;> cases h
theorem At.less {v : V} {d : Dat} (h : At C N H v d) (s : ∀ b, M b → N b) : At C M H v d := h.grow fun b z => .inl (s b z)
/-- with a new list in the set -/
theorem At.and {v : V} {d : Dat} {D : Addr} (h : At C N H v d) (f : H D = none) : At C (And1 N D) H v d := h.grow fun b z => z.imp id fun e => by rw [e]; exact f
theorem At.drop {v : V} {d : Dat} {D : Addr} (h : At C (And1 N D) H v d) : At C N H v d := h.less fun _ z => .inl z
theorem At.notin {p : Addr} {d : Dat} (h : At C N H (.ref p) d) : ¬ N p := by
  cases h <;> assumption
theorem At.there {p : Addr} {d : Dat} (h : At C N H (.ref p) d) : H p ≠ none := by
  cases h with
  | rat h n => obtain ⟨dx, h⟩ := h; rw [h]; intro z; cases z
  | tup h n l e => rw [h]; intro z; cases z
  | lst h n l e => rw [h]; intro z; cases z
  | sq h n l e => rcases h with h | h <;> (rw [h]; intro z; cases z)
theorem At.sqE {p : Addr} {ds : List Dat} (h : At C N H (.ref p) (.sq ds)) : ∃ xs, (H p = some (.tup xs) ∨ H p = some (.lst xs)) ∧ xs.length = ds.length ∧ ∀ (i : Nat) (x : V) (d : Dat), xs[i]? = some x → ds[i]? = some d → At C N H x d := by
  cases h with
  | sq h n l e => exact ⟨_, h, l, e⟩
theorem At.sqV {v : V} {ds : List Dat} (h : At C N H v (.sq ds)) : ∃ p, v = .ref p := by cases h; exact ⟨_, rfl⟩
/-- a list or a tuple is one of either kind -/
inductive Le : Dat → Dat → Prop where
  | refl (d : Dat) : Le d d
  | tupS {ds es : List Dat} (l : ds.length = es.length) (h : ∀ (i : Nat) (d e : Dat), ds[i]? = some d → es[i]? = some e → Le d e) : Le (.tup ds) (.sq es)
  | lstS {ds es : List Dat} (l : ds.length = es.length) (h : ∀ (i : Nat) (d e : Dat), ds[i]? = some d → es[i]? = some e → Le d e) : Le (.lst ds) (.sq es)
theorem At.weak {d e : Dat} (le : Le d e) : ∀ {v : V}, At C N H v d → At C N H v e := by
  induction le with
  | refl d => exact fun h => h
  | tupS l h ih =>
    intro v hv
    obtain ⟨p, rfl⟩ := (by cases hv; exact ⟨_, rfl⟩ : ∃ p, v = .ref p)
    cases hv with
    | tup h1 n l1 e1 =>
      refine .sq (.inl h1) n (by rw [l1, l]) fun i x d hx hd => ?_
      have lt : i < _ := (List.getElem?_eq_some_iff.mp hd).1
      have hd2 := List.getElem?_eq_getElem (l := _) (show i < _ from by rw [← l] at lt; exact lt)
      exact ih i _ d hd2 hd (e1 i x _ hx hd2)
  | lstS l h ih =>
    intro v hv
    obtain ⟨p, rfl⟩ := (by cases hv; exact ⟨_, rfl⟩ : ∃ p, v = .ref p)
    cases hv with
    | lst h1 n l1 e1 =>
      refine .sq (.inr h1) n (by rw [l1, l]) fun i x d hx hd => ?_
      have lt : i < _ := (List.getElem?_eq_some_iff.mp hd).1
      have hd2 := List.getElem?_eq_getElem (l := _) (show i < _ from by rw [← l] at lt; exact lt)
      exact ih i _ d hd2 hd (e1 i x _ hx hd2)
theorem At.tupE {p : Addr} {ds : List Dat} (h : At C N H (.ref p) (.tup ds)) : ∃ xs, H p = some (.tup xs) ∧ xs.length = ds.length ∧ ∀ (i : Nat) (x : V) (d : Dat), xs[i]? = some x → ds[i]? = some d → At C N H x d := by
  cases h with
  | tup h n l e => exact ⟨_, h, l, e⟩
theorem At.lstE {p : Addr} {ds : List Dat} (h : At C N H (.ref p) (.lst ds)) : ∃ xs, H p = some (.lst xs) ∧ xs.length = ds.length ∧ ∀ (i : Nat) (x : V) (d : Dat), xs[i]? = some x → ds[i]? = some d → At C N H x d := by
  cases h with
  | lst h n l e => exact ⟨_, h, l, e⟩
theorem At.tupV {v : V} {ds : List Dat} (h : At C N H v (.tup ds)) : ∃ p, v = .ref p := by cases h; exact ⟨_, rfl⟩
theorem At.lstV {v : V} {ds : List Dat} (h : At C N H v (.lst ds)) : ∃ p, v = .ref p := by cases h; exact ⟨_, rfl⟩
theorem At.ratV {v : V} {q : Rat} (h : At C N H v (.rat q)) : ∃ p, v = .ref p ∧ RatAt C H p q.num (q.den : Int) := by cases h with | rat h n => exact ⟨_, rfl, h⟩
theorem At.intV {v : V} {i : Int} (h : At C N H v (.int i)) : v = .int i := by cases h; rfl
theorem At.strV {v : V} {s : Str} (h : At C N H v (.str s)) : v = .str s := by cases h; rfl
/-- the items, by a function -/
def rng (n : Nat) (f : Nat → Dat) : List Dat := (List.range n).map f
theorem rng_len {n : Nat} {f : Nat → Dat} : (rng n f).length = n := by unfold rng; rw [List.length_map, List.length_range]
theorem rng_get {n i : Nat} {f : Nat → Dat} (h : i < n) : (rng n f)[i]? = some (f i) := by
  unfold rng
  rw [List.getElem?_map, List.getElem?_range h]
  rfl
theorem rng_lt {n i : Nat} {f : Nat → Dat} {d : Dat} (h : (rng n f)[i]? = some d) : i < n ∧ d = f i := by
  have hi : i < n := by
    have := (List.getElem?_eq_some_iff.mp h).1
    rw [rng_len] at this
    exact this
  rw [rng_get hi] at h
  exact ⟨hi, (Option.some.inj h).symm⟩
theorem rng_succ {n : Nat} {f : Nat → Dat} : rng (n + 1) f = rng n f ++ [f n] := by
  unfold rng
  rw [List.range_succ, List.map_append]
  rfl
theorem rng_ext {n : Nat} {f g : Nat → Dat} (h : ∀ i, i < n → f i = g i) : rng n f = rng n g := List.map_congr_left fun i hi => h i (List.mem_range.mp hi)
theorem At.tupR {p : Addr} {n : Nat} {f : Nat → Dat} (h : At C N H (.ref p) (.tup (rng n f))) : ∃ xs, H p = some (.tup xs) ∧ xs.length = n ∧ ∀ i, i < n → ∃ x, xs[i]? = some x ∧ At C N H x (f i) := by
  obtain ⟨xs, hp, l, e⟩ := h.tupE
  rw [rng_len] at l
  refine ⟨xs, hp, l, fun i hi => ?_⟩
  have hx : xs[i]? = some (xs[i]'(by omega)) := List.getElem?_eq_getElem _
  exact ⟨_, hx, e i _ _ hx (rng_get hi)⟩
theorem At.lstR {p : Addr} {n : Nat} {f : Nat → Dat} (h : At C N H (.ref p) (.lst (rng n f))) : ∃ xs, H p = some (.lst xs) ∧ xs.length = n ∧ ∀ i, i < n → ∃ x, xs[i]? = some x ∧ At C N H x (f i) := by
  obtain ⟨xs, hp, l, e⟩ := h.lstE
  rw [rng_len] at l
  refine ⟨xs, hp, l, fun i hi => ?_⟩
  have hx : xs[i]? = some (xs[i]'(by omega)) := List.getElem?_eq_getElem _
  exact ⟨_, hx, e i _ _ hx (rng_get hi)⟩
theorem At.sqR {p : Addr} {n : Nat} {f : Nat → Dat} (h : At C N H (.ref p) (.sq (rng n f))) : ∃ xs, (H p = some (.tup xs) ∨ H p = some (.lst xs)) ∧ xs.length = n ∧ ∀ i, i < n → ∃ x, xs[i]? = some x ∧ At C N H x (f i) := by
  obtain ⟨xs, hp, l, e⟩ := h.sqE
  rw [rng_len] at l
  refine ⟨xs, hp, l, fun i hi => ?_⟩
  have hx : xs[i]? = some (xs[i]'(by omega)) := List.getElem?_eq_getElem _
  exact ⟨_, hx, e i _ _ hx (rng_get hi)⟩
theorem Le.tupR {n : Nat} {f g : Nat → Dat} (h : ∀ i, i < n → Le (f i) (g i)) : Le (.tup (rng n f)) (.sq (rng n g)) := .tupS (by rw [rng_len, rng_len]) fun i d e hd he => by
  obtain ⟨hi, rfl⟩ := rng_lt hd
  obtain ⟨_, rfl⟩ := rng_lt he
  exact h i hi
theorem Le.lstR {n : Nat} {f g : Nat → Dat} (h : ∀ i, i < n → Le (f i) (g i)) : Le (.lst (rng n f)) (.sq (rng n g)) := .lstS (by rw [rng_len, rng_len]) fun i d e hd he => by
  obtain ⟨hi, rfl⟩ := rng_lt hd
  obtain ⟨_, rfl⟩ := rng_lt he
  exact h i hi
/-- a new tuple of what is there -/
theorem At.newT {xs : List V} {ds : List Dat} {r : Addr} (a : Alc N H) (f : H r = none) (l : xs.length = ds.length) (e : ∀ (i : Nat) (x : V) (d : Dat), xs[i]? = some x → ds[i]? = some d → At C N H x d) : At C N (upd H r (.tup xs)) (.ref r) (.tup ds) :=
  .tup upd_same (a.fresh f) l fun i x d hx hd => (e i x d hx hd).keep (Keep.new f)
theorem At.newL {xs : List V} {ds : List Dat} {r : Addr} (a : Alc N H) (f : H r = none) (l : xs.length = ds.length) (e : ∀ (i : Nat) (x : V) (d : Dat), xs[i]? = some x → ds[i]? = some d → At C N H x d) : At C N (upd H r (.lst xs)) (.ref r) (.lst ds) :=
  .lst upd_same (a.fresh f) l fun i x d hx hd => (e i x d hx hd).keep (Keep.new f)
theorem items0 : ∀ (i : Nat) (x : V) (d : Dat), ([] : List V)[i]? = some x → ([] : List Dat)[i]? = some d → At C N H x d := fun i x d h _ => by simp at h
theorem items1 {x : V} {d : Dat} (h : At C N H x d) : ∀ (i : Nat) (y : V) (e : Dat), [x][i]? = some y → [d][i]? = some e → At C N H y e := fun i y e h1 h2 => by
  match i with
  | 0 => cases h1; cases h2; exact h
  | i + 1 => simp at h1
theorem itemsC {x : V} {d : Dat} {xs : List V} {ds : List Dat} (h : At C N H x d) (t : ∀ (i : Nat) (y : V) (e : Dat), xs[i]? = some y → ds[i]? = some e → At C N H y e) : ∀ (i : Nat) (y : V) (e : Dat), (x :: xs)[i]? = some y → (d :: ds)[i]? = some e → At C N H y e := fun i y e h1 h2 => by
  match i with
  | 0 => cases h1; cases h2; exact h
  | i + 1 => exact t i y e h1 h2
/-! ### a list that a comprehension or a loop builds -/
structure Bld (C : Addr) (M N : Addr → Prop) (H0 : Hp) (D : Addr) (ds : List Dat) (H2 : Hp) : Prop where
  xs : ∃ xs, H2 D = some (.lst xs) ∧ xs.length = ds.length ∧ ∀ (i : Nat) (x : V) (d : Dat), xs[i]? = some x → ds[i]? = some d → At C (And1 N D) H2 x d
  k : Keep M H0 H2
theorem bld0 {D : Addr} (f : H D = none) : Bld C M N H D [] (upd H D (.lst [])) := ⟨⟨[], upd_same, rfl, fun i x d h => by simp at h⟩, Keep.new f⟩
theorem Bld.step {H0 H2 H3 : Hp} {D : Addr} {ds : List Dat} {x : V} {d : Dat} (B : Bld C M N H0 D ds H2) (f : H0 D = none) (k : Keep M H2 H3) (s : ∀ b, M b → N b) (nD : ¬ M D) (h : At C (And1 N D) H3 x d) :
    ∃ acc, H3 D = some (.lst acc) ∧ acc.length = ds.length ∧ Bld C M N H0 D (ds ++ [d]) (upd H3 D (.lst (acc ++ [x]))) := by
  obtain ⟨xs, hD, l, e⟩ := B.xs
  have ku : Keep (And1 N D) H3 (upd H3 D (.lst (xs ++ [x]))) := Keep.upd (.inr rfl)
  refine ⟨xs, k.k _ _ hD nD, l, ⟨⟨xs ++ [x], upd_same, by rw [List.length_append, List.length_append, l]; rfl, fun i y z h1 h2 => ?_⟩, ⟨fun b o hb n => ?_, fun b hb => ?_⟩⟩⟩
  · by_cases lt : i < xs.length
    · rw [List.getElem?_append_left lt] at h1
      rw [List.getElem?_append_left (by omega)] at h2
      exact ((e i y z h1 h2).keep (k.more fun b z => .inl (s b z))).keep ku
    · rw [List.getElem?_append_right (by omega)] at h1
      rw [List.getElem?_append_right (by omega), ← l] at h2
      exact (items1 h _ _ _ h1 h2).keep ku
  · rw [upd_ne (ne_of_none hb f)]
    exact k.k _ _ (B.k.k _ _ hb n) n
  · exact (Keep.upd (N := And1 N D) (.inr rfl)).a b (k.a b (B.k.a b hb))
theorem Bld.done {H0 H2 : Hp} {D : Addr} {ds : List Dat} (B : Bld C M N H0 D ds H2) (n : ¬ N D) : At C N H2 (.ref D) (.lst ds) := by
  obtain ⟨xs, hD, l, e⟩ := B.xs
  exact .lst hD n l fun i x d h1 h2 => (e i x d h1 h2).drop
/-- what was there before stays as it is while the list is built -/
theorem Bld.old {H0 H2 : Hp} {D : Addr} {ds : List Dat} {v : V} {d : Dat} (B : Bld C M N H0 D ds H2) (f : H0 D = none) (s : ∀ b, M b → N b) (h : At C N H0 v d) : At C (And1 N D) H2 v d := (h.and f).keep (B.k.more fun b z => .inl (s b z))
theorem Bld.alc {H0 H2 : Hp} {D : Addr} {ds : List Dat} (B : Bld C M N H0 D ds H2) (a : Alc N H0) : Alc (And1 N D) H2 := (a.keep B.k).and (by obtain ⟨xs, hD, _⟩ := B.xs; rw [hD]; intro z; cases z)
end
/-! ### rows, tables, pairs -/
def ratR (w : Nat) (u : Nat → Rat) : Dat := .tup (rng w fun j => .rat (u j))
def ratT (h w : Nat) (U : Nat → Nat → Rat) : Dat := .tup (rng h fun i => ratR w (U i))
def prD (q : Rat) : Dat := .tup [.int q.num, .int (q.den : Int)]
def prL (w : Nat) (u : Nat → Rat) : Dat := .lst (rng w fun j => prD (u j))
def prT (h w : Nat) (U : Nat → Nat → Rat) : Dat := .lst (rng h fun i => prL w (U i))
def intL (w : Nat) (z : Nat → Int) : Dat := .lst (rng w fun j => .int (z j))
theorem At.pair {C : Addr} {N : Addr → Prop} {H : Hp} {v : V} {q : Rat} (h : At C N H v (prD q)) : ∃ p, v = .ref p ∧ PairAt H p q.num (q.den : Int) ∧ ¬ N p := by
  obtain ⟨p, rfl⟩ := h.tupV
  obtain ⟨xs, hp, l, e⟩ := h.tupE
  match xs, l with
  | [x, y], _ =>
    have h0 := (e 0 x _ rfl rfl).intV
    have h1 := (e 1 y _ rfl rfl).intV
    subst h0 h1
    exact ⟨p, rfl, hp, h.notin⟩
theorem at_pair {C : Addr} {N : Addr → Prop} {H : Hp} {p : Addr} {q : Rat} (h : PairAt H p q.num (q.den : Int)) (n : ¬ N p) : At C N H (.ref p) (prD q) := .tup h n rfl (itemsC (.int _) (items1 (.int _)))
theorem pe_fldK {X : Cx} {K : PySem.W.Frag} (hK : X.K = K) {e : Expr} {f : Str} {pos : Pos} {ta : TE} (he : PE X e ta) (hb : attributeBase e f X.env (eval e X.env) = eval e X.env) : PE X (.Attribute e f pos) (tFld K ta f) := by
  subst hK
  exact pe_fld he hb
theorem pi_listK {X : Cx} {tg : Expr} {K : PySem.W.Frag} (hK : X.K = K) {l : Expr} {tl : TE} (hl : PE X l tl) : PI X tg l (iList K tl) := by
  subst hK
  exact pi_list hl
theorem pi_tupK {X : Cx} {tg : Expr} {K : PySem.W.Frag} (hK : X.K = K) {l : Expr} {tl : TE} (hl : PE X l tl) : PI X tg l (iTup K tl) := by
  subst hK
  exact pi_tup hl
theorem itF {b : Bool} {A B : Prop} (h : b = false) (x : B) : if b = true then A else B := by
  subst h
  exact iteF x
theorem itT {b : Bool} {A B : Prop} (h : b = true) (x : A) : if b = true then A else B := by
  subst h
  exact iteT x
theorem ixN_at {n j : Nat} {z : Int} (e : z = (j : Int)) (h : j < n) : ixN n z = some j := by
  subst e
  unfold ixN
  rw [if_pos (by omega), if_pos (by omega)]
  rfl
theorem small_of {n m : Nat} (h : n = m) (l : m ≤ 1000) : n < sizeLine := small1000 (by omega)
end RX

set_option Elab.async false
set_option maxRecDepth 100000
/-! rows as integers above one bottom -/
namespace VA
open RQ VM
/-- the least bottom for the first w numbers -/
def cb (u : Nat → Rat) : Nat → Nat
  | 0 => 1
  | w + 1 => Nat.lcm (cb u w) (u w).den
theorem cb_pos {u : Nat → Rat} : ∀ {w : Nat}, 0 < cb u w
  | 0 => Nat.one_pos
  | w + 1 => Nat.lcm_pos cb_pos (u w).den_pos
theorem cb_dvd {u : Nat → Rat} : ∀ {w i : Nat}, i < w → (u i).den ∣ cb u w
  | 0, i, h => absurd h (by omega)
  | w + 1, i, h => by
    rcases Nat.lt_or_eq_of_le (Nat.le_of_lt_succ h) with q | q
    · exact Nat.dvd_trans (cb_dvd q) (Nat.dvd_lcm_left _ _)
    · rw [q]; exact Nat.dvd_lcm_right _ _
theorem cb_up {u : Nat → Rat} : ∀ {w i : Nat}, i ≤ w → cb u i ∣ cb u w
  | 0, i, h => by rw [show i = 0 by omega]; exact Nat.dvd_refl _
  | w + 1, i, h => by
    rcases Nat.lt_or_eq_of_le h with q | q
    · exact Nat.dvd_trans (cb_up (by omega)) (Nat.dvd_lcm_left _ _)
    · rw [q]; exact Nat.dvd_refl _
theorem cb_least {u : Nat → Rat} {M : Nat} : ∀ {w : Nat}, (∀ i, i < w → (u i).den ∣ M) → cb u w ∣ M
  | 0, _ => Nat.one_dvd _
  | w + 1, h => Nat.lcm_dvd (cb_least fun i hi => h i (by omega)) (h w (by omega))
/-- .. of the first h rows -/
def cbt (U : Nat → Nat → Rat) (n : Nat) : Nat → Nat
  | 0 => 1
  | h + 1 => Nat.lcm (cbt U n h) (cb (U h) n)
theorem cbt_pos {U : Nat → Nat → Rat} {n : Nat} : ∀ {h : Nat}, 0 < cbt U n h
  | 0 => Nat.one_pos
  | h + 1 => Nat.lcm_pos cbt_pos cb_pos
theorem cbt_row {U : Nat → Nat → Rat} {n : Nat} : ∀ {h i : Nat}, i < h → cb (U i) n ∣ cbt U n h
  | 0, i, hi => absurd hi (by omega)
  | h + 1, i, hi => by
    rcases Nat.lt_or_eq_of_le (Nat.le_of_lt_succ hi) with q | q
    · exact Nat.dvd_trans (cbt_row q) (Nat.dvd_lcm_left _ _)
    · rw [q]; exact Nat.dvd_lcm_right _ _
theorem cbt_up {U : Nat → Nat → Rat} {n : Nat} : ∀ {h i : Nat}, i ≤ h → cbt U n i ∣ cbt U n h
  | 0, i, hi => by rw [show i = 0 by omega]; exact Nat.dvd_refl _
  | h + 1, i, hi => by
    rcases Nat.lt_or_eq_of_le hi with q | q
    · exact Nat.dvd_trans (cbt_up (by omega)) (Nat.dvd_lcm_left _ _)
    · rw [q]; exact Nat.dvd_refl _
theorem cbt_dvd {U : Nat → Nat → Rat} {n h i j : Nat} (hi : i < h) (hj : j < n) : (U i j).den ∣ cbt U n h := Nat.dvd_trans (cb_dvd hj) (cbt_row hi)
theorem cbt_least {U : Nat → Nat → Rat} {n M : Nat} : ∀ {h : Nat}, (∀ i, i < h → ∀ j, j < n → (U i j).den ∣ M) → cbt U n h ∣ M
  | 0, _ => Nat.one_dvd _
  | h + 1, k => Nat.lcm_dvd (cbt_least fun i hi => k i (by omega)) (cb_least (k h (by omega)))
/-- the top of a number above the bottom B -/
def topz (u : Nat → Rat) (B : Int) (j : Nat) : Int := (u j).num * B.fdiv ((u j).den : Int)
theorem topz_eq {u : Nat → Rat} {B : Int} {j : Nat} (d : ((u j).den : Int) ∣ B) : ((topz u B j : Int) : Rat) = u j * (B : Rat) := by
  have e := RT.fdiv_of_dvd (den_ne (u j)) d
  have n := nd (u j)
  unfold topz
  rw [Rat.intCast_mul, n]
  have e2 : ((B.fdiv ((u j).den : Int) : Int) : Rat) * (((u j).den : Int) : Rat) = (B : Rat) := by rw [← Rat.intCast_mul, e]
  grind
theorem of_bt {b : Nat} {x y : Nat} (h : x ∣ y) (p : 0 < y) (k : Bt b (y : Int)) : Bt b (x : Int) := k.le (by rw [Int.natAbs_natCast, Int.natAbs_natCast]; exact Nat.le_of_dvd p h)
theorem fdiv_bt {b : Nat} {B d : Int} (hd : d ≠ 0) (h : d ∣ B) (k : Bt b B) : Bt b (B.fdiv d) := quot_bt h hd k
def wsum (z y : Nat → Int) : Nat → Int
  | 0 => 0
  | n + 1 => wsum z y n + z n * y n
theorem wsum_cast {z y : Nat → Int} : ∀ {n : Nat}, ((wsum z y n : Int) : Rat) = dot (fun i => (z i : Rat)) (fun i => (y i : Rat)) n
  | 0 => rfl
  | n + 1 => by
    show ((wsum z y n + z n * y n : Int) : Rat) = dot _ _ n + _
    rw [Rat.intCast_add, wsum_cast, Rat.intCast_mul]
theorem wsum_list {z y : Nat → Int} : ∀ {n : Nat}, ((List.range n).map fun i => z i * y i).sum = wsum z y n
  | 0 => rfl
  | n + 1 => by
    rw [List.range_succ, List.map_append, List.sum_append, wsum_list]
    show _ + (z n * y n + 0) = _
    rw [Int.add_zero]
    rfl
theorem wsum_congr {z y z' y' : Nat → Int} : ∀ {n : Nat}, (∀ i, i < n → z i = z' i ∧ y i = y' i) → wsum z y n = wsum z' y' n
  | 0, _ => rfl
  | n + 1, h => by
    show wsum z y n + z n * y n = wsum z' y' n + z' n * y' n
    rw [wsum_congr fun i hi => h i (by omega), (h n (by omega)).1, (h n (by omega)).2]
theorem wsum_bt {a b : Nat} {z y : Nat → Int} : ∀ {n : Nat}, (∀ i, i < n → Bt a (z i) ∧ Bt b (y i)) → Bt (a + b + n) (wsum z y n)
  | 0, _ => bt0 _
  | n + 1, h => by
    have i := wsum_bt (n := n) fun i hi => h i (by omega)
    exact i.add (((h n (by omega)).1.mul (h n (by omega)).2).up (by omega))
/-- sizes of a row above its bottom -/
structure SzR (w : Nat) (u : Nat → Rat) (m t : Nat) : Prop where
  b : Bt m ((cb u w : Nat) : Int)
  t : ∀ j, j < w → Bt t (topz u ((cb u w : Nat) : Int) j)
/-- and of a table -/
structure SzT (h w : Nat) (U : Nat → Nat → Rat) (m t : Nat) : Prop where
  b : Bt m ((cbt U w h : Nat) : Int)
  t : ∀ i, i < h → ∀ j, j < w → Bt t (topz (U i) ((cbt U w h : Nat) : Int) j)
theorem topz_num {b : Nat} {u : Nat → Rat} {B : Int} {j : Nat} (d : ((u j).den : Int) ∣ B) (n0 : B ≠ 0) (k : Bt b (topz u B j)) : Bt b (u j).num := by
  have e := RT.fdiv_of_dvd (den_ne (u j)) d
  refine k.le ?_
  unfold topz
  rw [Int.natAbs_mul]
  refine Nat.le_mul_of_pos_right _ ?_
  have : B.fdiv ((u j).den : Int) ≠ 0 := fun z => n0 (by rw [← e, z, Int.zero_mul])
  omega
/-- numbers over a common bottom: their sizes -/
theorem szr_of {w m t : Nat} {u : Nat → Rat} {M : Int} (m0 : M ≠ 0) (bM : Bt m M) (h : ∀ j, j < w → Ov M t (u j)) : SzR w u m t := by
  have dv : cb u w ∣ M.natAbs := cb_least fun i hi => by
    have := ((h i hi).den m0).1
    have := Int.natAbs_dvd_natAbs.mpr this
    rwa [Int.natAbs_natCast] at this
  have p : 0 < M.natAbs := by omega
  have le : cb u w ≤ M.natAbs := Nat.le_of_dvd p dv
  refine ⟨bM.le (by rw [Int.natAbs_natCast]; exact le), fun j hj => ?_⟩
  obtain ⟨z, e, b⟩ := h j hj
  obtain ⟨c, hc⟩ := dv
  have d1 : ((u j).den : Int) ∣ ((cb u w : Nat) : Int) := Int.natCast_dvd_natCast.mpr (cb_dvd hj)
  have e1 := topz_eq d1
  refine b.le ?_
  have c0 : c ≠ 0 := fun y => by rw [y, Nat.mul_zero] at hc; omega
  have sg : M = M.sign * ((cb u w : Nat) : Int) * (c : Int) := by
    have := Int.sign_mul_natAbs M
    rw [hc] at this
    rw [Int.mul_assoc, ← Int.natCast_mul]
    exact this.symm
  have ez : z = M.sign * (c : Int) * topz u ((cb u w : Nat) : Int) j := by
    refine Rat.intCast_inj.mp ?_
    rw [e, Rat.intCast_mul, e1]
    have : (M : Rat) = ((M.sign * ((cb u w : Nat) : Int) * (c : Int) : Int) : Rat) := by rw [← sg]
    rw [this, Rat.intCast_mul, Rat.intCast_mul, Rat.intCast_mul]
    grind
  rw [ez, Int.natAbs_mul, Int.natAbs_mul]
  have s1 : M.sign.natAbs = 1 := Int.natAbs_sign_of_ne_zero m0
  rw [s1, Nat.one_mul, Int.natAbs_natCast]
  exact Nat.le_mul_of_pos_left _ (by omega)
theorem szt_of {h w m t : Nat} {U : Nat → Nat → Rat} {M : Int} (m0 : M ≠ 0) (bM : Bt m M) (k : ∀ i, i < h → ∀ j, j < w → Ov M t (U i j)) : SzT h w U m t := by
  have dv : cbt U w h ∣ M.natAbs := cbt_least fun i hi j hj => by
    have := ((k i hi j hj).den m0).1
    have := Int.natAbs_dvd_natAbs.mpr this
    rwa [Int.natAbs_natCast] at this
  have p : 0 < M.natAbs := by omega
  have le : cbt U w h ≤ M.natAbs := Nat.le_of_dvd p dv
  refine ⟨bM.le (by rw [Int.natAbs_natCast]; exact le), fun i hi j hj => ?_⟩
  obtain ⟨z, e, b⟩ := k i hi j hj
  obtain ⟨c, hc⟩ := dv
  have d1 : ((U i j).den : Int) ∣ ((cbt U w h : Nat) : Int) := Int.natCast_dvd_natCast.mpr (cbt_dvd hi hj)
  have e1 := topz_eq d1
  refine b.le ?_
  have c0 : c ≠ 0 := fun y => by rw [y, Nat.mul_zero] at hc; omega
  have sg : M = M.sign * ((cbt U w h : Nat) : Int) * (c : Int) := by
    have := Int.sign_mul_natAbs M
    rw [hc] at this
    rw [Int.mul_assoc, ← Int.natCast_mul]
    exact this.symm
  have ez : z = M.sign * (c : Int) * topz (U i) ((cbt U w h : Nat) : Int) j := by
    refine Rat.intCast_inj.mp ?_
    rw [e, Rat.intCast_mul, e1]
    have : (M : Rat) = ((M.sign * ((cbt U w h : Nat) : Int) * (c : Int) : Int) : Rat) := by rw [← sg]
    rw [this, Rat.intCast_mul, Rat.intCast_mul, Rat.intCast_mul]
    grind
  rw [ez, Int.natAbs_mul, Int.natAbs_mul]
  have s1 : M.sign.natAbs = 1 := Int.natAbs_sign_of_ne_zero m0
  rw [s1, Nat.one_mul, Int.natAbs_natCast]
  exact Nat.le_mul_of_pos_left _ (by omega)
/-- whole numbers z above B, of at most this many bits, for the numbers q -/
structure Abv (n : Nat) (q : Nat → Rat) (z : Nat → Int) (B : Int) (b t : Nat) : Prop where
  b0 : B ≠ 0
  bb : Bt b B
  eq : ∀ j, j < n → (z j : Rat) = q j * (B : Rat)
  bt : ∀ j, j < n → Bt t (z j)
theorem Abv.up {n b t b' t' : Nat} {q : Nat → Rat} {z : Nat → Int} {B : Int} (h : Abv n q z B b t) (l : b ≤ b') (k : t ≤ t') : Abv n q z B b' t' := ⟨h.b0, h.bb.up l, h.eq, fun j hj => (h.bt j hj).up k⟩
theorem dot_scaled {u y : Nat → Rat} {c d : Rat} : ∀ {w : Nat}, dot (fun i => u i * c) (fun i => y i * d) w = dot u y w * (c * d)
  | 0 => by unfold dot; grind
  | w + 1 => by
    unfold dot
    rw [dot_scaled]
    grind
theorem abv_sum {n b t : Nat} {q : Nat → Rat} {z y : Nat → Int} {B c : Int} {p : Nat → Rat} (h : Abv n q z B b t) (hy : ∀ i, i < n → (y i : Rat) = p i * (c : Rat)) : ((wsum z y n : Int) : Rat) = dot q p n * ((B * c : Int) : Rat) := by
  rw [wsum_cast, dot_congr (u' := fun i => q i * (B : Rat)) (y' := fun i => p i * (c : Rat)) (fun j hj => h.eq j hj) (fun j hj => hy j hj), dot_scaled, Rat.intCast_mul]
theorem cbt_ne {U : Nat → Nat → Rat} {n h : Nat} : ((cbt U n h : Nat) : Int) ≠ 0 := by
  have := cbt_pos (U := U) (n := n) (h := h)
  omega
theorem cb_ne {u : Nat → Rat} {n : Nat} : ((cb u n : Nat) : Int) ≠ 0 := by
  have := cb_pos (u := u) (w := n)
  omega
theorem abv_step {n b t b1 t1 : Nat} {q : Nat → Rat} {z : Nat → Int} {B : Int} {U : Nat → Nat → Rat} (h : Abv n q z B b t) (sz : SzT n n U b1 t1) :
    Abv n (fun j => dot q (fun i => U i j) n) (fun j => wsum z (fun i => topz (U i) ((cbt U n n : Nat) : Int) j) n) (B * ((cbt U n n : Nat) : Int)) (b + b1) (t + t1 + n) :=
  ⟨Int.mul_ne_zero h.b0 cbt_ne, h.bb.mul sz.b, fun j hj => abv_sum (p := fun i => U i j) h fun i hi => topz_eq (Int.natCast_dvd_natCast.mpr (cbt_dvd hi hj)), fun j hj => wsum_bt fun i hi => ⟨h.bt i hi, sz.t i hi j hj⟩⟩
theorem abv_row {n b t : Nat} {u : Nat → Rat} (sz : SzR n u b t) : Abv n u (topz u ((cb u n : Nat) : Int)) ((cb u n : Nat) : Int) b t :=
  ⟨cb_ne, sz.b, fun j hj => topz_eq (Int.natCast_dvd_natCast.mpr (cb_dvd hj)), sz.t⟩
theorem abv_sum' {n b t : Nat} {q : Nat → Rat} {z y : Nat → Int} {B c : Int} {p : Nat → Rat} (h : Abv n q z B b t) (hy : ∀ i, i < n → (y i : Rat) = p i * (c : Rat)) : ((wsum y z n : Int) : Rat) = dot p q n * ((B * c : Int) : Rat) := by
  rw [wsum_cast, dot_congr (u' := fun i => p i * (c : Rat)) (y' := fun i => q i * (B : Rat)) (fun j hj => hy j hj) (fun j hj => h.eq j hj), dot_scaled, Rat.intCast_mul, Rat.mul_comm (c : Rat)]
theorem abv_col {n b t b1 t1 : Nat} {q : Nat → Rat} {z : Nat → Int} {B : Int} {U : Nat → Nat → Rat} (h : Abv n q z B b t) (sz : SzT n n U b1 t1) :
    Abv n (fun i => dot (U i) q n) (fun i => wsum (fun j => topz (U i) ((cbt U n n : Nat) : Int) j) z n) (B * ((cbt U n n : Nat) : Int)) (b + b1) (t1 + t + n) :=
  ⟨Int.mul_ne_zero h.b0 cbt_ne, h.bb.mul sz.b, fun i hi => abv_sum' (p := U i) h fun j hj => topz_eq (Int.natCast_dvd_natCast.mpr (cbt_dvd hi hj)), fun i hi => wsum_bt fun j hj => ⟨sz.t i hi j hj, h.bt j hj⟩⟩
theorem abv_unit {n i : Nat} : Abv n (VN.unit i) (fun j => if i = j then 1 else 0) 1 1 1 :=
  ⟨by decide, show (1 : Int).natAbs < 2 ^ 1 by decide, fun j hj => by
    show (((if i = j then 1 else 0 : Int)) : Rat) = (if i = j then (1 : Rat) else 0) * ((1 : Int) : Rat)
    have one : ((1 : Int) : Rat) = 1 := rfl
    have zero : ((0 : Int) : Rat) = 0 := rfl
    by_cases e : i = j
    · rw [if_pos e, if_pos e, one, Rat.mul_one]
    · rw [if_neg e, if_neg e, zero, one, Rat.mul_one], fun j hj => by
    show ((if i = j then 1 else 0 : Int)).natAbs < 2 ^ 1
    by_cases e : i = j
    · rw [if_pos e]; decide
    · rw [if_neg e]; decide⟩
end VA

set_option Elab.async false
set_option maxRecDepth 100000
set_option exponentiation.threshold 100000
namespace RX
open PySem L2 VA
open RQ (Hg Bt)
/-! ### rows as integers above one bottom -/
abbrev sCbm : Stmt := topS 11
theorem scCbm : FnScope ["row", "bottom", "number"] ["row"] (defScope sCbm) := ⟨rfl, rfl, rfl, by decide +kernel, rfl, by decide +kernel, by decide +kernel⟩
abbrev sTa : Stmt := topS 12
theorem scTa : FnScope ["row", "bottom", "number"] ["row", "bottom"] (defScope sTa) := ⟨rfl, rfl, rfl, by decide +kernel, rfl, by decide +kernel, by decide +kernel⟩
abbrev sRa : Stmt := topS 13
theorem scRa : FnScope ["row", "bottom"] ["row"] (defScope sRa) := ⟨rfl, rfl, rfl, by decide +kernel, rfl, by decide +kernel, by decide +kernel⟩
abbrev sTb : Stmt := topS 14
theorem scTb : FnScope ["table", "bottom", "row"] ["table"] (defScope sTb) := ⟨rfl, rfl, rfl, by decide +kernel, rfl, by decide +kernel, by decide +kernel⟩
abbrev sRts : Stmt := topS 15
theorem scRts : FnScope ["tops", "bottom", "top"] ["tops", "bottom"] (defScope sRts) := ⟨rfl, rfl, rfl, by decide +kernel, rfl, by decide +kernel, by decide +kernel⟩
abbrev sWp : Stmt := topS 16
theorem scWp : FnScope ["one", "other", "mine", "its"] ["one", "other"] (defScope sWp) := ⟨rfl, rfl, rfl, by decide +kernel, rfl, by decide +kernel, by decide +kernel⟩
abbrev sWr : Stmt := topS 17
theorem scWr : FnScope ["row", "square", "sums", "number", "line", "done", "more"] ["row", "square"] (defScope sWr) := ⟨rfl, rfl, rfl, by decide +kernel, rfl, by decide +kernel, by decide +kernel⟩
def iV (w : Nat) (z : Nat → Int) : List V := (List.range w).map fun j => V.int (z j)
theorem iV_len {w : Nat} {z : Nat → Int} : (iV w z).length = w := by unfold iV; rw [List.length_map, List.length_range]
theorem iV_get {w : Nat} {z : Nat → Int} {i : Nat} (h : i < w) : (iV w z)[i]? = some (.int (z i)) := by
  unfold iV
  rw [List.getElem?_map, List.getElem?_range h]
  rfl
theorem iV_lt {w : Nat} {z : Nat → Int} {i : Nat} {x : V} (h : (iV w z)[i]? = some x) : i < w ∧ x = .int (z i) := by
  have hi : i < w := by
    have := (List.getElem?_eq_some_iff.mp h).1
    rw [iV_len] at this
    exact this
  rw [iV_get hi] at h
  exact ⟨hi, (Option.some.inj h).symm⟩
theorem iV_succ {w : Nat} {z : Nat → Int} : iV (w + 1) z = iV w z ++ [.int (z w)] := by
  unfold iV
  rw [List.range_succ, List.map_append]
  rfl
theorem zeros_iV : ∀ {n : Nat}, (List.replicate n [V.int 0]).flatten = iV n fun _ => 0
  | 0 => rfl
  | n + 1 => by
    rw [iV_succ, ← zeros_iV, List.replicate_succ', List.flatten_append]
    rfl
theorem at_ints {C : Addr} {N : Addr → Prop} {H : Hp} {p : Addr} {w : Nat} {z : Nat → Int} (h : H p = some (.lst (iV w z))) (n : ¬ N p) : At C N H (.ref p) (intL w z) :=
  .lst h n (by rw [iV_len, rng_len]) fun i x d hx hd => by
    obtain ⟨hi, rfl⟩ := iV_lt hx
    obtain ⟨_, rfl⟩ := rng_lt hd
    exact .int _
theorem At.ints {C : Addr} {N : Addr → Prop} {H : Hp} {p : Addr} {w : Nat} {z : Nat → Int} (h : At C N H (.ref p) (intL w z)) : H p = some (.lst (iV w z)) := by
  obtain ⟨xs, hp, l, e⟩ := At.lstR h
  rw [hp]
  congr 2
  refine List.ext_getElem? fun i => ?_
  by_cases hi : i < w
  · obtain ⟨x, hx, hd⟩ := e i hi
    rw [hx, iV_get hi, hd.intV]
  · rw [List.getElem?_eq_none (by omega), List.getElem?_eq_none (by rw [iV_len]; omega)]
theorem Hg.bt {b : Nat} {x : Int} (h : Bt b x) (l : b ≤ 60000000) : Hg x := ⟨b, l, h⟩
theorem lt13 {x : Nat} {m : Nat} (h : Bt m (x : Int)) (l : m ≤ 12999) : ((x : Int)).natAbs < 2 ^ 13000 := Nat.lt_of_lt_of_le h (Nat.pow_le_pow_right (by decide) (by omega))
theorem lcmN {a b : Nat} : RT.lcmI (a : Int) (b : Int) = ((Nat.lcm a b : Nat) : Int) := by
  unfold RT.lcmI
  rw [Int.natAbs_natCast, Int.natAbs_natCast]
def spCbm (C : Addr) : Sp := fun vs H Q _ => ∃ (N : Addr → Prop) (p : Addr) (w m : Nat) (u : Nat → Rat), vs = [.ref p] ∧ At C N H (.ref p) (ratR w u) ∧ Bt m ((cb u w : Nat) : Int) ∧ m ≤ 12999 ∧ Q (.int ((cb u w : Nat) : Int)) H
def spTa (C : Addr) : Sp := fun vs H Q _ => ∃ (N : Addr → Prop) (p : Addr) (w b : Nat) (u : Nat → Rat) (B : Int), vs = [.ref p, .int B] ∧ At C N H (.ref p) (ratR w u) ∧ Alc N H ∧ w ≤ 1000 ∧ B ≠ 0 ∧ (∀ j, j < w → ((u j).den : Int) ∣ B) ∧ Bt b B ∧ (∀ j, j < w → Bt b (topz u B j)) ∧ b ≤ 60000000 ∧
  ∀ (r : Addr) (H' : Hp), Same H H' → H r = none → At C N H' (.ref r) (intL w (topz u B)) → Q (.ref r) H'
def absR (w : Nat) (u : Nat → Rat) : Dat := .tup [intL w (topz u ((cb u w : Nat) : Int)), .int ((cb u w : Nat) : Int)]
def absT (h w : Nat) (U : Nat → Nat → Rat) : Dat := .tup [.lst (rng h fun i => intL w (topz (U i) ((cbt U w h : Nat) : Int))), .int ((cbt U w h : Nat) : Int)]
def spRa (C : Addr) : Sp := fun vs H Q _ => ∃ (N : Addr → Prop) (p : Addr) (w m t : Nat) (u : Nat → Rat), vs = [.ref p] ∧ At C N H (.ref p) (ratR w u) ∧ Alc N H ∧ w ≤ 1000 ∧ SzR w u m t ∧ m ≤ 12999 ∧ t ≤ 40000000 ∧
  ∀ (r : Addr) (H' : Hp), Same H H' → H r = none → At C N H' (.ref r) (absR w u) → Q (.ref r) H'
def spTb (C : Addr) : Sp := fun vs H Q _ => ∃ (N : Addr → Prop) (p : Addr) (h w m t : Nat) (U : Nat → Nat → Rat), vs = [.ref p] ∧ At C N H (.ref p) (ratT h w U) ∧ Alc N H ∧ h ≤ 1000 ∧ w ≤ 1000 ∧ SzT h w U m t ∧ m ≤ 12999 ∧ t ≤ 40000000 ∧
  ∀ (r : Addr) (H' : Hp), Same H H' → H r = none → At C N H' (.ref r) (absT h w U) → Q (.ref r) H'
def spRts (C : Addr) : Sp := fun vs H Q _ => ∃ (N : Addr → Prop) (p : Addr) (w : Nat) (z : Nat → Int) (B : Int) (q : Nat → Rat), vs = [.ref p, .int B] ∧ At C N H (.ref p) (intL w z) ∧ Alc N H ∧ w ≤ 1000 ∧ B ≠ 0 ∧ (∀ j, j < w → (z j : Rat) = q j * (B : Rat)) ∧
  ∀ (r : Addr) (H' : Hp), Same H H' → H r = none → At C N H' (.ref r) (ratR w q) → Q (.ref r) H'
def spWp (C : Addr) : Sp := fun vs H Q _ => ∃ (N : Addr → Prop) (p r : Addr) (w : Nat) (z y : Nat → Int), vs = [.ref p, .ref r] ∧ At C N H (.ref p) (intL w z) ∧ At C N H (.ref r) (intL w y) ∧ w ≤ 1000 ∧ (∀ j, j < w → Hg (z j) ∧ Hg (y j)) ∧ ∀ H', Same H H' → Q (.int (wsum z y w)) H'
def spWr (C : Addr) : Sp := fun vs H Q _ => ∃ (N : Addr → Prop) (p r : Addr) (n : Nat) (z : Nat → Int) (y : Nat → Nat → Int), vs = [.ref p, .ref r] ∧ At C N H (.ref p) (intL n z) ∧ At C N H (.ref r) (.lst (rng n fun i => intL n (y i))) ∧ Alc N H ∧ n ≤ 1000 ∧ (∀ i, i < n → Hg (z i)) ∧ (∀ i, i < n → ∀ j, j < n → Hg (y i j)) ∧
  ∀ (q : Addr) (H' : Hp), Same H H' → H q = none → At C N H' (.ref q) (intL n fun j => wsum z (fun i => y i j) n) → Q (.ref q) H'
section
variable {P : Program} {w : World} {K : PySem.W.Frag} {mg : Str → Option Value} {base : Heap}
theorem ok_cbm {f C : Addr} {fd : FuncData} (F : Fun K "common_bottom" "common_bottom" sCbm f fd) (TP : TxtP mg) (TR : TxtR K mg C) : FnOk P w K mg base CX0 1 f fd ["row"] (spCbm C) := by
  refine F.ok scCbm (fun vs H Q E h => ?_) (fun cdv A outer s H vs Q E hr h => ?_)
  · obtain ⟨N, p, w, m, u, rfl, _⟩ := h
    rfl
  · obtain ⟨N, p, w, m, u, rfl, hp, hb, hm, k⟩ := h
    obtain ⟨xs, hx, l, e⟩ := At.tupR hp
    refine ⟨_, pss_cons (ps_set (i := 1) scCbm.nd rfl (.inl rfl) pe_int)
      (pss_cons (ps_for PassesOwn.never rfl (pi_tup (pv 0)) (pg_name (i := 2) scCbm.nd rfl (.inl rfl))
        (pss_one (ps_set (i := 1) scCbm.nd rfl (.inl rfl) (pe_callBfun cr_lcm (by rfl) TP.lcm (pa_cons (pv 1) (pa_cons (pe_fld (pv 2) rfl) pa_nil))))))
      (pss_one (ps_ret (pv 1)))), ?_⟩
    refine ⟨_, rfl, p, rfl, ⟨_, SqT.of hx⟩, for_it (walk_tup (K := K) (a := p) (xs := xs)) (fun i σ H' => ∃ y, σ = [some (.ref p), some (.int ((cb u i : Nat) : Int)), y] ∧ H' = H) ⟨none, rfl, rfl⟩ (fun i σ H' _ h => by obtain ⟨_, _, rfl⟩ := h; exact SqT.of hx) ?_ ?_⟩
    · rintro i x σ H1 H2 hi ⟨y, rfl, rfl⟩ ⟨rfl, hx2⟩
      rw [l] at hi
      obtain ⟨x', hx', hd⟩ := e i hi
      rw [hx'] at hx2
      obtain rfl := Option.some.inj hx2
      obtain ⟨q, rfl, dx, hq⟩ := hd.ratV
      have b1 : Bt m ((cb u i : Nat) : Int) := of_bt (cb_up (by omega)) cb_pos hb
      have b2 : Bt m ((u i).den : Int) := of_bt (cb_dvd hi) cb_pos hb
      refine ⟨_, rfl, _, rfl, q, C, dx, _, _, rfl, hq, TR.cl, TR.nB, rf_bot _ _, _, _, rfl, lt13 b1 hm, lt13 b2 hm, some (.ref q), ?_, rfl⟩
      show [_, some (V.int (RT.lcmI ((cb u i : Nat) : Int) ((u i).den : Int))), _] = _
      rw [lcmN]
      rfl
    · rintro σ H1 ⟨y, rfl, rfl⟩
      rw [l]
      exact ⟨_, rfl, k⟩
theorem ok_ta (B : PL.Big P base) {f C : Addr} {fd : FuncData} (F : Fun K "tops_above" "tops_above" sTa f fd) (TR : TxtR K mg C) : FnOk P w K mg base CX0 33 f fd ["row", "bottom"] (spTa C) := by
  refine F.ok scTa (fun vs H Q E h => ?_) (fun cdv A outer s H vs Q E hr32 h => ?_)
  · obtain ⟨N, p, w, b, u, z, rfl, _⟩ := h
    rfl
  · obtain ⟨N, p, w, b, u, z, rfl, hp, al, hw, z0, dv, bz, bt, hb, k⟩ := h
    obtain ⟨xs, hx, l, e⟩ := At.tupR hp
    refine ⟨_, pss_one (ps_ret (pe_lc (own := [("number", 2)]) (g := gName 2) (tt := tYes) rfl scTa.nd (pi_tup (pv 0)) (blkOk_by (N := ["row", "bottom", "number"]) (sc := (defScope sTa)) (by decide +kernel)) (fun _ _ _ _ _ => (pg_name (i := 2) scTa.nd rfl (.inl rfl))) (fun _ _ _ _ _ => pts_nil) (fun _ _ _ _ _ => (pe_op RQ.op_mulH (pe_fldK (K := K) rfl (pv 2) rfl) (pe_op (PL.op_fdivP B hr32 ⟨_, _, rfl, rfl, rfl, rfl, rfl⟩) (pv 1) (pe_fldK (K := K) rfl (pv 2) rfl)))))), ?_⟩
    refine ⟨_, rfl, p, rfl, ⟨_, SqT.of hx⟩, fun D nD => ?_⟩
    refine lc_it (walk_tup (K := K) (a := p) (xs := xs)) (fun i H' => H' D = some (.lst (iV i (topz u z))) ∧ Same H H') ⟨upd_same, Same.upd nD⟩ (fun i H' _ h => SqT.of (h.2 _ _ hx)) ?_ ?_
    · rintro i x H1 H2 hi ⟨hD, s1⟩ ⟨rfl, hx2⟩
      rw [l] at hi
      obtain ⟨x', hx', hd⟩ := e i hi
      rw [hx'] at hx2
      obtain rfl := Option.some.inj hx2
      obtain ⟨q, rfl, dx, hq⟩ := hd.ratV
      have hq := s1 _ _ hq
      have dz := dv i hi
      have nz := VM.den_ne (u i)
      refine ⟨rfl, _, rfl, q, C, dx, _, _, rfl, hq, TR.cl, TR.nT, rf_top _ _, _, rfl, _, rfl, q, C, dx, _, _, rfl, hq, TR.cl, TR.nB, rf_bot _ _, _, _, rfl, rfl, nz, _, _, rfl, rfl, ⟨⟨b, hb, topz_num dz z0 (bt i hi)⟩, ⟨b, hb, fdiv_bt nz dz bz⟩⟩, _, hD, ?_, ?_, fun c o hc => ?_⟩
      · rw [iV_len]
        exact small1000 (by omega)
      · rw [upd_same, iV_succ]
        rfl
      · rw [upd_ne (ne_of_none hc nD)]
        exact s1 _ _ hc
    · rintro H1 ⟨hD, s1⟩
      rw [l] at hD
      exact k D H1 s1 nD (at_ints hD (al.fresh nD))
theorem ok_ra {f fC fT C : Addr} {fd dC dT : FuncData} (F : Fun K "row_above" "row_above" sRa f fd) (cCb : CalN P w K mg base "common_bottom" 1 ["row"] (spCbm C) fC dC) (cTa : CalN P w K mg base "tops_above" 33 ["row", "bottom"] (spTa C) fT dT) : FnOk P w K mg base CX0 34 f fd ["row"] (spRa C) := by
  refine F.ok scRa (fun vs H Q E h => ?_) (fun cdv A outer s H vs Q E hr h => ?_)
  · obtain ⟨N, p, w, m, t, u, rfl, _⟩ := h
    rfl
  · obtain ⟨N, p, w, m, t, u, rfl, hp, al, hw, sz, hm, ht, k⟩ := h
    have hr1 : Room 1 _ := hr.mono (by decide)
    have hr33 : Room 33 _ := hr
    refine ⟨_, pss_cons (ps_set (i := 1) scRa.nd rfl (.inl rfl) (pe_call cCb.G hr1 rfl cCb.m cCb.kp cCb.b .nil pass0 (pa_cons (pv 0) pa_nil)))
      (pss_one (ps_ret (pe_tup (pa_cons (pe_call cTa.G hr33 rfl cTa.m cTa.kp cTa.b .nil pass0 (pa_cons (pv 0) (pa_cons (pv 1) pa_nil))) (pa_cons (pv 1) pa_nil))))), ?_⟩
    have p0 := cb_pos (u := u) (w := w)
    refine ⟨_, rfl, N, p, w, m, u, rfl, hp, sz.b, hm, ?_⟩
    refine ⟨_, rfl, _, rfl, N, p, w, m + t, u, _, rfl, hp, al, hw, by omega, fun j hj => Int.natCast_dvd_natCast.mpr (cb_dvd hj), sz.b.up (by omega), fun j hj => (sz.t j hj).up (by omega), by omega, fun r H1 s1 nr hr1' => ?_⟩
    refine ⟨_, rfl, (by show 2 ≤ sizeLine; decide), fun q nq => ?_⟩
    exact k q _ (s1.trans (Same.upd nq)) (s1.free nq) (At.newT (al.keep (Same.keep (N := N) s1)) nq rfl (itemsC hr1' (items1 (.int _))))
theorem ok_tb {f fC fT C : Addr} {fd dC dT : FuncData} (F : Fun K "table_above" "table_above" sTb f fd) (TP : TxtP mg) (cCb : CalN P w K mg base "common_bottom" 1 ["row"] (spCbm C) fC dC) (cTa : CalN P w K mg base "tops_above" 33 ["row", "bottom"] (spTa C) fT dT) : FnOk P w K mg base CX0 34 f fd ["table"] (spTb C) := by
  refine F.ok scTb (fun vs H Q E h => ?_) (fun cdv A outer s H vs Q E hr h => ?_)
  · obtain ⟨N, p, h, w, m, t, U, rfl, _⟩ := h
    rfl
  · obtain ⟨N, p, h, w, m, t, U, rfl, hp, al, hh, hw, sz, hm, ht, k⟩ := h
    have hr1 : Room 1 _ := hr.mono (by decide)
    have hr33 : Room 33 _ := hr
    obtain ⟨xs, hx, l, e⟩ := At.tupR hp
    refine ⟨_, pss_cons (ps_set (i := 1) scTb.nd rfl (.inr rfl) pe_int)
      (pss_cons (ps_for PassesOwn.never rfl (pi_tup (pv 0)) (pg_name (i := 2) scTb.nd rfl (.inl rfl))
        (pss_one (ps_set (i := 1) scTb.nd rfl (.inr rfl) (pe_callBfun cr_lcm (by rfl) TP.lcm (pa_cons (pv 1) (pa_cons (pe_call cCb.G hr1 rfl cCb.m cCb.kp cCb.b .nil pass0 (pa_cons (pv 2) pa_nil)) pa_nil))))))
      (pss_one (ps_ret (pe_tup (pa_cons (pe_lc (own := [("row", 2)]) (g := gName 2) (tt := tYes) rfl scTb.nd (pi_tup (pv 0)) (blkOk_by (N := ["table", "bottom", "row"]) (sc := (defScope sTb)) (by decide +kernel)) (fun _ _ _ _ _ => (pg_name (i := 2) scTb.nd rfl (.inl rfl))) (fun _ _ _ _ _ => pts_nil) (fun _ _ _ _ _ => (pe_call cTa.G hr33 rfl cTa.m cTa.kp cTa.b .nil pass0 (pa_cons (pv 2) (pa_cons (pv 1) pa_nil))))) (pa_cons (pv 1) pa_nil)))))), ?_⟩
    have p0 := cbt_pos (U := U) (n := w) (h := h)
    refine ⟨_, rfl, p, rfl, ⟨_, SqT.of hx⟩, for_it (walk_tup (K := K) (a := p) (xs := xs)) (fun i σ H' => ∃ y, σ = [some (.ref p), some (.int ((cbt U w i : Nat) : Int)), y] ∧ H' = H) ⟨none, rfl, rfl⟩ (fun i σ H' _ h => by obtain ⟨_, _, rfl⟩ := h; exact SqT.of hx) ?_ ?_⟩
    · rintro i x σ H1 H2 hi ⟨y, rfl, rfl⟩ ⟨rfl, hx2⟩
      rw [l] at hi
      obtain ⟨x', hx', hd⟩ := e i hi
      rw [hx'] at hx2
      obtain rfl := Option.some.inj hx2
      obtain ⟨q, rfl⟩ := hd.tupV
      have b1 : Bt m ((cbt U w i : Nat) : Int) := of_bt (cbt_up (by omega)) cbt_pos sz.b
      have b2 : Bt m ((cb (U i) w : Nat) : Int) := of_bt (cbt_row hi) cbt_pos sz.b
      refine ⟨_, rfl, _, rfl, N, q, w, m, U i, rfl, hd, b2, hm, _, _, rfl, lt13 b1 hm, lt13 b2 hm, some (.ref q), ?_, rfl⟩
      show [_, some (V.int (RT.lcmI ((cbt U w i : Nat) : Int) ((cb (U i) w : Nat) : Int))), _] = _
      rw [lcmN]
      rfl
    · rintro σ H1 ⟨y, rfl, rfl⟩
      rw [l]
      generalize hB : ((cbt U w h : Nat) : Int) = B at sz
      refine ⟨_, rfl, p, rfl, ⟨_, SqT.of hx⟩, fun D nD => ?_⟩
      have nND := al.fresh nD
      refine lc_it (walk_tup (K := K) (a := p) (xs := xs)) (fun i H' => Bld C Emp N H1 D (rng i fun i => intL w (topz (U i) B)) H') (bld0 nD) (fun i H' _ b => SqT.of (b.k.same _ _ hx)) ?_ ?_
      · rintro i x H2 H3 hi b ⟨rfl, hx2⟩
        rw [l] at hi
        obtain ⟨x', hx', hd⟩ := e i hi
        rw [hx'] at hx2
        obtain rfl := Option.some.inj hx2
        obtain ⟨q, rfl⟩ := hd.tupV
        have szb := sz.b
        rw [hB] at szb
        refine ⟨rfl, _, rfl, _, rfl, And1 N D, q, w, m + t, U i, B, rfl, b.old nD (fun _ z => z.elim) hd, b.alc al, hw, by omega, fun j hj => by rw [← hB]; exact Int.natCast_dvd_natCast.mpr (cbt_dvd hi hj), szb.up (by omega), fun j hj => by rw [← hB]; exact (sz.t i hi j hj).up (by omega), by omega, fun r H4 s4 nr hr4 => ?_⟩
        obtain ⟨acc, h1, h2, h3⟩ := b.step nD (Same.keep s4) (fun _ z => z.elim) id hr4
        refine ⟨acc, h1, by rw [h2, rng_len]; exact small1000 (by omega), ?_⟩
        rw [rng_succ]
        exact h3
      · rintro H2 b
        rw [l] at b
        refine ⟨_, rfl, (by show 2 ≤ sizeLine; decide), fun q nq => ?_⟩
        have hL := b.done nND
        have res := At.newT (xs := [.ref D, .int B]) (ds := [.lst (rng h fun i => intL w (topz (U i) B)), .int B]) (al.keep b.k) nq rfl (itemsC hL (items1 (.int _)))
        refine k q _ (b.k.same.trans (Same.upd nq)) (b.k.same.free nq) ?_
        unfold absT
        rw [hB]
        exact res
theorem make4 {C : Addr} {H : Hp} {t b : Int} {R : VK} {E : XK} {x dx : Addr} (hb : b ≠ 0) (nx : H x = none) (nd : H dx = none) (k : ∀ H' : Hp, Same H H' → RatAt C H' x (RT.top t b) (RT.bot t b) → R .non H') :
    spInitB C (.ref x :: ([.int t, .int b] ++ [])) (upd (upd H dx (.own x)) x (.ins C dx [])) R E :=
  ⟨x, dx, t, b, rfl, upd_same, hb, fun H' hR kp => k H' (Same.made nx nd kp) hR⟩
theorem ok_rts {f fI C : Addr} {fd dI : FuncData} (F : Fun K "ratios" "ratios" sRts f fd) (TP : TxtP mg) (TR : TxtR K mg C) (M : Mk K C fI) (GI : FnOk P w K mg base CX0 33 fI dI ["self", "top", "bottom"] (spInitB C)) (bI : Binds K dI ["self", "top", "bottom"] []) : FnOk P w K mg base CX0 35 f fd ["tops", "bottom"] (spRts C) := by
  refine F.ok scRts (fun vs H Q E h => ?_) (fun cdv A outer s H vs Q E hr h => ?_)
  · obtain ⟨N, p, w, z, B, q, rfl, _⟩ := h
    rfl
  · obtain ⟨N, p, w, z, B, q, rfl, hp, al, hw, b0, e, k⟩ := h
    have hr34 : Room 34 _ := hr
    have hx := hp.ints
    refine ⟨_, pss_one (ps_ret (pe_callTy (T := "tuple") call_tuple_of (by rfl) TP.tup (by decide +kernel) (pa_cons (pe_lc (own := [("top", 2)]) (g := gName 2) (tt := tYes) rfl scRts.nd (pi_list (pv 0)) (blkOk_by (N := ["tops", "bottom", "top"]) (sc := (defScope sRts)) (by decide +kernel)) (fun _ _ _ _ _ => (pg_name (i := 2) scRts.nd rfl (.inl rfl))) (fun _ _ _ _ _ => pts_nil) (fun _ _ _ _ _ => (pe_make M GI hr34 rfl TR.mgC bI .nil pass0 (pa_cons (pv 2) (pa_cons (pv 1) pa_nil))))) pa_nil))), ?_⟩
    refine ⟨_, rfl, p, rfl, ⟨_, SqL.of hx⟩, fun D nD => ?_⟩
    have nND := al.fresh nD
    refine lc_it (walk_list (K := K) (a := p) (xs := iV w z)) (fun i H' => Bld C Emp N H D (rng i fun i => .rat (q i)) H') (bld0 nD) (fun i H' _ b => SqL.of (b.k.same _ _ hx)) ?_ ?_
    · rintro i x H2 H3 hi b ⟨rfl, hx2⟩
      obtain ⟨hi, rfl⟩ := iV_lt hx2
      refine ⟨rfl, _, rfl, _, rfl, fun x dx nx nd _ => make4 b0 nx nd fun H4 s4 hR => ⟨rfl, ?_⟩⟩
      obtain ⟨e1, e2⟩ := RQ.low b0 (e i hi)
      rw [e1, e2] at hR
      obtain ⟨acc, h1, h2, h3⟩ := b.step nD (Same.keep s4) (fun _ z => z.elim) id (.rat hR ((b.alc al).fresh nx))
      refine ⟨acc, h1, by rw [h2, rng_len]; exact small1000 (by omega), ?_⟩
      rw [rng_succ]
      exact h3
    · rintro H2 b
      rw [iV_len] at b
      obtain ⟨xs, hD, l2, e2⟩ := (b.done nND).lstE
      refine ⟨D, xs, rfl, .inl ⟨SqL.of hD, fun r nr => ?_⟩⟩
      exact k r _ (b.k.same.trans (Same.upd nr)) (b.k.same.free nr) (At.newT (al.keep b.k) nr l2 e2)
theorem ok_wp {f C : Addr} {fd : FuncData} (F : Fun K "whole_product" "whole_product" sWp f fd) (TP : TxtP mg) (msum : mg "sum" = none) : FnOk P w K mg base CX0 1 f fd ["one", "other"] (spWp C) := by
  refine F.ok scWp (fun vs H Q E h => ?_) (fun cdv A outer s H vs Q E hr h => ?_)
  · obtain ⟨N, p, r, w, z, y, rfl, _⟩ := h
    rfl
  · obtain ⟨N, p, r, w, z, y, rfl, hp, hr', hw, g, k⟩ := h
    have hx := hp.ints
    have hy := hr'.ints
    refine ⟨_, pss_one (ps_ret (pe_callB (cr_sum rfl) (by rfl) msum (by decide +kernel) (pa_cons (pe_lc (own := [("mine", 2), ("its", 3)]) (g := gTup K 2 (gCons (gName 2) (gCons (gName 3) gNil))) (tt := tYes) rfl scWp.nd (pi_zip (by rfl) TP.zip (pa_cons (pv 0) (pa_cons (pv 1) pa_nil))) (blkOk_by (N := ["one", "other", "mine", "its"]) (sc := (defScope sWp)) (by decide +kernel)) (fun _ _ _ _ _ => (pg_tup rfl (pgs_cons (pg_name (i := 2) scWp.nd rfl (.inl rfl)) (pgs_cons (pg_name (i := 3) scWp.nd rfl (.inl rfl)) pgs_nil)))) (fun _ _ _ _ _ => pts_nil) (fun _ _ _ _ _ => (pe_op RQ.op_mulH (pv 2) (pv 3)))) pa_nil))), ?_⟩
    refine ⟨_, rfl, _, rfl, p, r, _, _, rfl, SqL.of hx, SqL.of hy, fun D nD => ?_⟩
    refine lc_it (walk_zip (K := K) (a := p) (b := r) (xs := iV w z) (ys := iV w y) (n := w) (by rw [iV_len, iV_len, Nat.min_self])) (fun i H' => H' D = some (.lst (iV i fun j => z j * y j)) ∧ Same H H') ⟨upd_same, Same.upd nD⟩ (fun i H' _ h => ⟨SqL.of (h.2 _ _ hx), SqL.of (h.2 _ _ hy)⟩) ?_ ?_
    · rintro i v H1 H2 hi ⟨hD, s1⟩ ⟨T, x, x', rfl, nT, rfl, h1, h2⟩
      obtain ⟨_, rfl⟩ := iV_lt h1
      obtain ⟨_, rfl⟩ := iV_lt h2
      have tD : T ≠ D := (ne_of_none hD nT).symm
      refine ⟨T, _, rfl, SqT.of upd_same, rfl, _, _, rfl, _, _, rfl, rfl, ?_⟩
      refine ⟨rfl, _, rfl, _, rfl, _, _, rfl, rfl, g i hi, _, by rw [upd_ne tD.symm]; exact hD, ?_, ?_, fun c o hc => ?_⟩
      · rw [iV_len]
        exact small1000 (by omega)
      · rw [upd_same, iV_succ]
      · have hc1 := s1 _ _ hc
        rw [upd_ne (ne_of_none hc nD), upd_ne (ne_of_none hc1 nT)]
        exact hc1
    · rintro H1 ⟨hD, s1⟩
      refine ⟨D, (List.range w).map fun j => z j * y j, rfl, SqL.of (by rw [List.map_map]; exact hD), ?_⟩
      rw [wsum_list]
      exact k H1 s1
theorem ok_wr {f C : Addr} {fd : FuncData} (F : Fun K "whole_row_times" "whole_row_times" sWr f fd) (T : TxtL mg) (TP : TxtP mg) : FnOk P w K mg base CX0 1 f fd ["row", "square"] (spWr C) := by
  refine F.ok scWr (fun vs H Q E h => ?_) (fun cdv A outer s H vs Q E hr h => ?_)
  · obtain ⟨N, p, r, n, z, y, rfl, _⟩ := h
    rfl
  · obtain ⟨N, p, r, n, z, y, rfl, hp, hr', al, hn, gz, gy, k⟩ := h
    have hx := hp.ints
    obtain ⟨ys, hy, ly, ey⟩ := At.lstR hr'
    refine ⟨_, pss_cons (ps_set (i := 2) scWr.nd rfl (.inl rfl) (pe_op op_rep (pe_lst (pa_cons pe_int pa_nil)) (pe_callB call_len_seq (by rfl) T.len PySem.boot_len (pa_cons (pv 1) pa_nil))))
      (pss_cons (ps_for PassesOwn.never rfl (pi_zip (by rfl) TP.zip (pa_cons (pv 0) (pa_cons (pv 1) pa_nil))) (pg_tup rfl (pgs_cons (pg_name (i := 3) scWr.nd rfl (.inr rfl)) (pgs_cons (pg_name (i := 4) scWr.nd rfl (.inl rfl)) pgs_nil)))
        (pss_one (ps_if (pt_truth (pv 3) (by intro _; rfl))
          (pss_one (ps_setLc (i := 2) (own := [("done", 5), ("more", 6)]) (g := gTup K 2 (gCons (gName 5) (gCons (gName 6) gNil))) (tt := tYes) rfl scWr.nd rfl rfl (sw_true rfl rfl rfl (by decide +kernel)) (pi_zip (by rfl) TP.zip (pa_cons (pv 2) (pa_cons (pv 4) pa_nil))) (blkOk_by (N := ["row", "square", "sums", "number", "line", "done", "more"]) (sc := (defScope sWr)) (by decide +kernel)) (fun _ _ _ _ _ => (pg_tup rfl (pgs_cons (pg_name (i := 5) scWr.nd rfl (.inl rfl)) (pgs_cons (pg_name (i := 6) scWr.nd rfl (.inl rfl)) pgs_nil)))) (fun _ _ _ _ _ => pts_nil) (fun _ _ _ _ _ => (pe_op op_add (pv 5) (pe_op RQ.op_mulH (pv 3) (pv 6))))))
          pss_nil)))
      (pss_one (ps_ret (pv 2)))), ?_⟩
    refine ⟨(by show 1 ≤ sizeLine; decide), fun L nL => ?_⟩
    have sL : Same H (upd H L (.lst [.int 0])) := Same.upd nL
    refine ⟨_, rfl, r, ys, rfl, .inl (SqL.of (sL _ _ hy)), L, _, _, rfl, rfl, upd_same, by omega, by rw [ly]; omega, ?_, fun D nD => ?_⟩
    · rw [ly]
      show 1 * _ ≤ sizeLine
      rw [Nat.one_mul, Int.toNat_natCast]
      exact Nat.le_of_lt (small1000 hn)
    have e0 : (List.replicate (((ys.length : Nat) : Int).toNat) [V.int 0]).flatten = iV n fun _ => 0 := by
      rw [Int.toNat_natCast, ly]
      exact zeros_iV
    have sD := sL.trans (Same.upd (o := .lst ((List.replicate (((ys.length : Nat) : Int).toNat) [V.int 0]).flatten)) nD)
    refine ⟨_, rfl, _, rfl, p, r, _, _, rfl, SqL.of (sD _ _ hx), SqL.of (sD _ _ hy), for_it (walk_zip (K := K) (a := p) (b := r) (xs := iV n z) (ys := ys) (n := n) (by rw [iV_len, ly, Nat.min_self])) (fun i σ H' => ∃ q o3 o4, σ = [some (.ref p), some (.ref r), some (.ref q), o3, o4, none, none] ∧ H' q = some (.lst (iV n fun j => wsum z (fun i => y i j) i)) ∧ H q = none ∧ Same H H')
      ⟨D, none, none, rfl, by rw [upd_same, e0]; rfl, sL.free nD, sD⟩ (fun i σ H' _ h => by obtain ⟨_, _, _, _, _, _, s⟩ := h; exact ⟨SqL.of (s _ _ hx), SqL.of (s _ _ hy)⟩) ?_ ?_⟩
    · rintro i v σ H1 H2 hi ⟨q, o3, o4, rfl, hq, nq, s1⟩ ⟨T', x, x', rfl, nT, rfl, h1, h2⟩
      obtain ⟨_, rfl⟩ := iV_lt h1
      obtain ⟨x2, hx2, hd⟩ := ey i hi
      have h2 : ys[i]? = some x' := h2
      rw [hx2] at h2
      obtain rfl := Option.some.inj h2
      obtain ⟨ln, rfl⟩ := hd.lstV
      have hln := hd.ints
      have sT : Same H1 (upd H1 T' (.tup [.int (z i), .ref ln])) := Same.upd nT
      refine ⟨T', _, rfl, SqT.of upd_same, rfl, _, _, rfl, _, _, rfl, rfl, ?_⟩
      refine ⟨_, rfl, _, rfl, ?_⟩
      by_cases z0 : z i = 0
      · rw [show ((z i != 0) : Bool) = false by rw [z0]; rfl]
        refine iteF ⟨q, _, _, rfl, ?_, nq, s1.trans sT⟩
        rw [sT _ _ hq]
        congr 3
        funext j
        show _ = wsum z (fun i => y i j) i + z i * y i j
        rw [z0, Int.zero_mul, Int.add_zero]
      · rw [show ((z i != 0) : Bool) = true from bne_iff_ne.mpr z0]
        refine iteT ?_
        refine ⟨_, rfl, _, rfl, q, ln, _, _, rfl, SqL.of (sT _ _ hq), SqL.of (sT _ _ (s1 _ _ hln)), fun G nG => ?_⟩
        have hq2 := sT _ _ hq
        have hl2 := sT _ _ (s1 _ _ hln)
        generalize upd H1 T' (.tup [.int (z i), .ref ln]) = H2 at *
        refine lc_it (walk_zip (K := K) (a := q) (b := ln) (xs := iV n fun j => wsum z (fun i => y i j) i) (ys := iV n (y i)) (n := n) (by rw [iV_len, iV_len, Nat.min_self])) (fun j H' => H' G = some (.lst (iV j fun j => wsum z (fun i => y i j) (i + 1))) ∧ Same H2 H') ⟨upd_same, Same.upd nG⟩ (fun j H' _ h => ⟨SqL.of (h.2 _ _ hq2), SqL.of (h.2 _ _ hl2)⟩) ?_ ?_
        · rintro j v H3 H4 hj ⟨hG, s3⟩ ⟨T2, x, x', rfl, nT2, rfl, h1, h2⟩
          obtain ⟨_, rfl⟩ := iV_lt h1
          obtain ⟨_, rfl⟩ := iV_lt h2
          have tD : T2 ≠ G := (ne_of_none hG nT2).symm
          refine ⟨T2, _, rfl, SqT.of upd_same, rfl, _, _, rfl, _, _, rfl, rfl, ?_⟩
          refine ⟨rfl, _, rfl, _, rfl, _, rfl, _, _, rfl, rfl, ⟨gz i hi, gy i hi j hj⟩, _, _, rfl, rfl, _, by rw [upd_ne tD.symm]; exact hG, ?_, ?_, fun c o hc => ?_⟩
          · rw [iV_len]
            exact small1000 (by omega)
          · rw [upd_same, iV_succ]
            rfl
          · have hc1 := s3 _ _ hc
            rw [upd_ne (ne_of_none hc nG), upd_ne (ne_of_none hc1 nT2)]
            exact hc1
        · rintro H3 ⟨hG, s3⟩
          exact ⟨G, _, _, rfl, hG, (s1.trans sT).free nG, (s1.trans sT).trans s3⟩
    · rintro σ H1 ⟨q, o3, o4, rfl, hq, nq, s1⟩
      exact ⟨_, rfl, k q H1 s1 nq (at_ints hq (al.fresh nq))⟩
end
end RX

set_option Elab.async false
set_option maxRecDepth 100000
set_option exponentiation.threshold 100000
namespace RX
open PySem L2 VA VM
open RQ (Hg Bt)
/-! ### rows that are led through steps -/
abbrev sShf : Stmt := topS 21
theorem scShf : FnScope ["row", "found", "integer"] ["row"] (defScope sShf) := ⟨rfl, rfl, rfl, by decide +kernel, rfl, by decide +kernel, by decide +kernel⟩
abbrev sShd : Stmt := topS 20
theorem scShd : FnScope ["tops", "bottom", "shared", "top"] ["tops", "bottom"] (defScope sShd) := ⟨rfl, rfl, rfl, by decide +kernel, rfl, by decide +kernel, by decide +kernel⟩
abbrev sRth : Stmt := topS 19
theorem scRth : FnScope ["tops", "bottom", "steps", "lead", "longest", "lines", "below"] ["tops", "bottom", "steps", "lead"] (defScope sRth) := ⟨rfl, rfl, rfl, by decide +kernel, rfl, by decide +kernel, by decide +kernel⟩
abbrev sWc : Stmt := topS 18
theorem scWc : FnScope ["column", "square", "line"] ["column", "square"] (defScope sWc) := ⟨rfl, rfl, rfl, by decide +kernel, rfl, by decide +kernel, by decide +kernel⟩
theorem Abv_div {n b t : Nat} {q : Nat → Rat} {z z' : Nat → Int} {B B' g : Int} (h : Abv n q z B b t) (g0 : g ≠ 0) (eB : B' * g = B) (ez : ∀ j, j < n → z' j * g = z j) : Abv n q z' B' b t := by
  have le : ∀ {x y : Int}, x * g = y → x.natAbs ≤ y.natAbs := fun {x y} e => by
    rw [← e, Int.natAbs_mul]
    exact Nat.le_mul_of_pos_right _ (Int.natAbs_pos.mpr g0)
  refine ⟨fun z => h.b0 (by rw [← eB, z, Int.zero_mul]), h.bb.le (le eB), fun j hj => ?_, fun j hj => (h.bt j hj).le (le (ez j hj))⟩
  have e := h.eq j hj
  have gr : (g : Rat) ≠ 0 := fun z => g0 (by exact_mod_cast z)
  rw [← ez j hj, ← eB, Rat.intCast_mul, Rat.intCast_mul] at e
  grind
def zc (B : Int) (z : Nat → Int) : Nat → Int
  | 0 => B
  | j + 1 => z j
theorem iV_cons {B : Int} {z : Nat → Int} {n : Nat} : iV (n + 1) (zc B z) = .int B :: iV n z := by
  unfold iV
  rw [List.range_succ_eq_map, List.map_cons, List.map_map]
  rfl
def stR (n : Nat) (z : Nat → Int) (y : Nat → Nat → Int) : Nat → Int := fun j => wsum z (fun i => y i j) n
def stC (n : Nat) (z : Nat → Int) (y : Nat → Nat → Int) : Nat → Int := fun i => wsum (y i) z n
def spLead (C : Addr) (st : Nat → (Nat → Int) → (Nat → Nat → Int) → Nat → Int) : Sp := fun vs H Q _ => ∃ (N : Addr → Prop) (p r : Addr) (n : Nat) (z : Nat → Int) (y : Nat → Nat → Int), vs = [.ref p, .ref r] ∧ At C N H (.ref p) (intL n z) ∧ At C N H (.ref r) (.lst (rng n fun i => intL n (y i))) ∧ Alc N H ∧ n ≤ 1000 ∧ (∀ i, i < n → Hg (z i)) ∧ (∀ i, i < n → ∀ j, j < n → Hg (y i j)) ∧
  ∀ (q : Addr) (H' : Hp), Same H H' → H q = none → At C N H' (.ref q) (intL n (st n z y)) → Q (.ref q) H'
def spShf (C : Addr) : Sp := fun vs H Q _ => ∃ (N : Addr → Prop) (p : Addr) (w : Nat) (z : Nat → Int), vs = [.ref p] ∧ At C N H (.ref p) (intL w z) ∧ Q (.int ((gf z w : Nat) : Int)) H
def spShd (C : Addr) : Sp := fun vs H Q _ => ∃ (N : Addr → Prop) (p : Addr) (w : Nat) (z : Nat → Int) (B : Int), vs = [.ref p, .int B] ∧ At C N H (.ref p) (intL w z) ∧ Alc N H ∧ w ≤ 1000 ∧ B ≠ 0 ∧
  ∀ (v : V) (z' : Nat → Int) (B' g : Int) (H' : Hp), Same H H' → At C N H' v (.tup [intL w z', .int B']) → g ≠ 0 → B' * g = B → (∀ j, j < w → z' j * g = z j) → Q v H'
def spRth (C : Addr) (st : Nat → (Nat → Int) → (Nat → Nat → Int) → Nat → Int) (fL : Addr) : Sp := fun vs H Q _ => ∃ (N : Addr → Prop) (p q : Addr) (n L b t b1 t1 : Nat) (z : Nat → Int) (B : Int) (U : Nat → Nat → Nat → Rat) (r : Nat → Nat → Rat), vs = [.ref p, .int B, .ref q, .ref fL] ∧ At C N H (.ref p) (intL n z) ∧ At C N H (.ref q) (.lst (rng L fun i => absT n n (U i))) ∧ Alc N H ∧ n ≤ 1000 ∧
  b + L * b1 ≤ 60000000 ∧ t + L * (t1 + n) ≤ 60000000 ∧ b1 ≤ 60000000 ∧ t1 ≤ 60000000 ∧ Abv n (r 0) z B b t ∧ (∀ i, i < L → SzT n n (U i) b1 t1) ∧
  (∀ i, i < L → ∀ (z : Nat → Int) (B : Int) (b t : Nat), Abv n (r i) z B b t → Abv n (r (i + 1)) (st n z fun a => topz (U i a) ((cbt (U i) n n : Nat) : Int)) (B * ((cbt (U i) n n : Nat) : Int)) (b + b1) (t + t1 + n)) ∧
  ∀ (v : V) (z' : Nat → Int) (B' : Int) (H' : Hp), Same H H' → At C N H' v (.tup [intL n z', .int B']) → Abv n (r L) z' B' (b + L * b1) (t + L * (t1 + n)) → Q v H'
section
variable {P : Program} {w : World} {K : PySem.W.Frag} {mg : Str → Option Value} {base : Heap}
theorem ok_shf {f C : Addr} {fd : FuncData} (F : Fun K "shared_factor" "shared_factor" sShf f fd) (TR : TxtR K mg C) : FnOk P w K mg base CX0 1 f fd ["row"] (spShf C) := by
  refine F.ok scShf (fun vs H Q E h => ?_) (fun cdv A outer s H vs Q E hr h => ?_)
  · obtain ⟨N, p, w, z, rfl, _⟩ := h
    rfl
  · obtain ⟨N, p, w, z, rfl, hp, k⟩ := h
    have hx := hp.ints
    refine ⟨_, pss_cons (ps_set (i := 1) scShf.nd rfl (.inl rfl) pe_int)
      (pss_cons (ps_for PassesOwn.never rfl (pi_list (pv 0)) (pg_name (i := 2) scShf.nd rfl (.inl rfl))
        (pss_one (ps_set (i := 1) scShf.nd rfl (.inl rfl) (pe_callBfun cr_gcd (by rfl) TR.gcd (pa_cons (pv 1) (pa_cons (pv 2) pa_nil))))))
      (pss_one (ps_ret (pv 1)))), ?_⟩
    refine ⟨_, rfl, p, rfl, ⟨_, SqL.of hx⟩, for_it (walk_list (K := K) (a := p) (xs := iV w z)) (fun i σ H' => ∃ y, σ = [some (.ref p), some (.int ((gf z i : Nat) : Int)), y] ∧ H' = H) ⟨none, rfl, rfl⟩ (fun i σ H' _ h => by obtain ⟨_, _, rfl⟩ := h; exact SqL.of hx) ?_ ?_⟩
    · rintro i x σ H1 H2 hi ⟨y, rfl, rfl⟩ ⟨rfl, hx2⟩
      obtain ⟨hi', rfl⟩ := iV_lt hx2
      refine ⟨_, rfl, _, rfl, _, _, rfl, some (.int (z i)), ?_, rfl⟩
      show [some (V.ref p), some (V.int ((Nat.gcd (((gf z i : Nat) : Int)).natAbs (z i).natAbs : Nat) : Int)), some (V.int (z i))] = _
      rw [Int.natAbs_natCast]
      rfl
    · rintro σ H1 ⟨y, rfl, rfl⟩
      rw [iV_len]
      exact ⟨_, rfl, k⟩
theorem ok_shd (B : PL.Big P base) {f fS C : Addr} {fd dS : FuncData} (F : Fun K "shortened" "shortened" sShd f fd) (cShf : CalN P w K mg base "shared_factor" 1 ["row"] (spShf C) fS dS) : FnOk P w K mg base CX0 33 f fd ["tops", "bottom"] (spShd C) := by
  refine F.ok scShd (fun vs H Q E h => ?_) (fun cdv A outer s H vs Q E hr32 h => ?_)
  · obtain ⟨N, p, w, z, B, rfl, _⟩ := h
    rfl
  · obtain ⟨N, p, w, z, B0, rfl, hp, al, hw, b0, k⟩ := h
    have hr1 : Room 1 _ := hr32.mono (by decide)
    have hx := hp.ints
    refine ⟨_, pss_cons (ps_set (i := 2) scShd.nd rfl (.inr rfl) (pe_call cShf.G hr1 rfl cShf.m cShf.kp cShf.b .nil pass0 (pa_cons (pe_op op_cat (pe_lst (pa_cons (pv 1) pa_nil)) (pv 0)) pa_nil)))
      (pss_one (ps_ret (pe_ifExp (pt_cmpR op_gt (pv 2) pe_int (nomark _)) (pe_tup (pa_cons (pe_lc (own := [("top", 3)]) (g := gName 3) (tt := tYes) rfl scShd.nd (pi_list (pv 0)) (blkOk_by (N := ["tops", "bottom", "shared", "top"]) (sc := (defScope sShd)) (by decide +kernel)) (fun _ _ _ _ _ => (pg_name (i := 3) scShd.nd rfl (.inl rfl))) (fun _ _ _ _ _ => pts_nil) (fun _ _ _ _ _ => (pe_op (PL.op_fdivP B hr32 ⟨_, _, rfl, rfl, rfl, rfl, rfl⟩) (pv 3) (pv 2)))) (pa_cons (pe_op (PL.op_fdivP B hr32 ⟨_, _, rfl, rfl, rfl, rfl, rfl⟩) (pv 1) (pv 2)) pa_nil))) (pe_tup (pa_cons (pv 0) (pa_cons (pv 1) pa_nil)))))), ?_⟩
    refine ⟨_, rfl, (by show 1 ≤ sizeLine; decide), fun l nl => ⟨_, rfl, l, p, _, _, rfl, rfl, upd_same, Same.upd nl _ _ hx, by show 1 + (iV w z).length ≤ sizeLine; rw [iV_len]; exact Nat.le_trans (show 1 + w ≤ 1001 by omega) (by show 1001 ≤ sizeLine; decide), fun r nr => ?_⟩⟩
    have s1 : Same H (upd (upd H l (.lst [.int B0])) r (.lst ([.int B0] ++ iV w z))) := (Same.upd nl).trans (Same.upd nr)
    have hr : (upd (upd H l (.lst [.int B0])) r (.lst ([.int B0] ++ iV w z))) r = some (.lst (iV (w + 1) (zc B0 z))) := by rw [upd_same, iV_cons]; rfl
    have nrN : ¬ N r := al.fresh ((Same.upd nl).free nr)
    generalize upd (upd H l (.lst [.int B0])) r (.lst ([.int B0] ++ iV w z)) = H1 at *
    refine ⟨N, r, w + 1, zc B0 z, rfl, at_ints hr nrN, ?_⟩
    have g0 : 0 < gf (zc B0 z) (w + 1) := gf_pos (j := 0) (by omega) b0
    have dv : ∀ j, j < w + 1 → ((gf (zc B0 z) (w + 1) : Nat) : Int) ∣ zc B0 z j := fun j hj => gf_dvd hj
    generalize gf (zc B0 z) (w + 1) = g at *
    have gne : (g : Int) ≠ 0 := by omega
    have hp1 := hp.same s1
    have hx1 := hp1.ints
    have al1 := al.keep (Same.keep (N := N) s1)
    refine ⟨_, rfl, _, _, rfl, rfl, _, rfl, ?_⟩
    refine ite2 (fun z1 => ?_) (fun z1 => ?_)
    · refine ⟨_, rfl, p, rfl, ⟨_, SqL.of hx1⟩, fun D nD => ?_⟩
      refine lc_it (walk_list (K := K) (a := p) (xs := iV w z)) (fun i H' => H' D = some (.lst (iV i fun j => (z j).fdiv (g : Int))) ∧ Same H1 H') ⟨upd_same, Same.upd nD⟩ (fun i H' _ h => SqL.of (h.2 _ _ hx1)) ?_ ?_
      · rintro i x H2 H3 hi ⟨hD, s2⟩ ⟨rfl, hx2⟩
        obtain ⟨hi', rfl⟩ := iV_lt hx2
        refine ⟨rfl, _, rfl, _, rfl, _, _, rfl, rfl, gne, _, hD, ?_, ?_, fun c o hc => ?_⟩
        · rw [iV_len]
          exact small1000 (by omega)
        · rw [upd_same, iV_succ]
        · rw [upd_ne (ne_of_none hc nD)]
          exact s2 _ _ hc
      · rintro H2 ⟨hD, s2⟩
        rw [iV_len] at hD
        refine ⟨_, rfl, _, rfl, _, _, rfl, rfl, gne, (by show 2 ≤ sizeLine; decide), fun q nq => ?_⟩
        refine k (.ref q) (fun j => (z j).fdiv (g : Int)) (B0.fdiv (g : Int)) (g : Int) _ ((s1.trans s2).trans (Same.upd nq)) ?_ gne (RT.fdiv_of_dvd gne (dv 0 (by omega))) fun j hj => RT.fdiv_of_dvd gne (dv (j + 1) (by omega))
        exact At.newT (al1.keep (Same.keep (N := N) s2)) nq rfl (itemsC (at_ints hD (al1.fresh nD)) (items1 (.int _)))
    · refine ⟨_, rfl, _, rfl, (by show 2 ≤ sizeLine; decide), fun q nq => ?_⟩
      refine k (.ref q) z B0 1 _ (s1.trans (Same.upd nq)) ?_ (by decide) (Int.mul_one _) fun j hj => Int.mul_one _
      exact At.newT al1 nq rfl (itemsC hp1 (items1 (.int _)))
theorem ok_wc {f fW C : Addr} {fd dW : FuncData} (F : Fun K "whole_column_times" "whole_column_times" sWc f fd) (cWp : CalN P w K mg base "whole_product" 1 ["one", "other"] (spWp C) fW dW) : FnOk P w K mg base CX0 2 f fd ["column", "square"] (spLead C stC) := by
  refine F.ok scWc (fun vs H Q E h => ?_) (fun cdv A outer s H vs Q E hr h => ?_)
  · obtain ⟨N, p, r, n, z, y, rfl, _⟩ := h
    rfl
  · obtain ⟨N, p, r, n, z, y, rfl, hp, hr', al, n1, gz, gy, k⟩ := h
    have hr1 : Room 1 _ := hr
    obtain ⟨ys, hys, ly, ey⟩ := At.lstR hr'
    refine ⟨_, pss_one (ps_ret (pe_lc (own := [("line", 2)]) (g := gName 2) (tt := tYes) rfl scWc.nd (pi_list (pv 1)) (blkOk_by (N := ["column", "square", "line"]) (sc := (defScope sWc)) (by decide +kernel)) (fun _ _ _ _ _ => (pg_name (i := 2) scWc.nd rfl (.inl rfl))) (fun _ _ _ _ _ => pts_nil) (fun _ _ _ _ _ => (pe_call cWp.G hr1 rfl cWp.m cWp.kp cWp.b .nil pass0 (pa_cons (pv 2) (pa_cons (pv 0) pa_nil)))))), ?_⟩
    refine ⟨_, rfl, r, rfl, ⟨_, SqL.of hys⟩, fun D nD => ?_⟩
    have nND := al.fresh nD
    refine lc_it (walk_list (K := K) (a := r) (xs := ys)) (fun j G => Bld C Emp N H D (rng j fun i => .int (stC n z y i)) G) (bld0 nD) (fun i G _ b => SqL.of (b.k.same _ _ hys)) ?_ ?_
    · rintro j x G1 G2 hj bb ⟨rfl, hy⟩
      rw [ly] at hj
      obtain ⟨y', hy', hd'⟩ := ey j hj
      rw [hy'] at hy
      obtain rfl := Option.some.inj hy
      obtain ⟨qy, rfl⟩ := hd'.lstV
      refine ⟨rfl, _, rfl, _, rfl, N, qy, p, n, _, z, rfl, hd'.keep (Same.keep bb.k.same), hp.keep (Same.keep bb.k.same), n1, fun l hl => ⟨gy j hj l hl, gz l hl⟩, fun G3 s3 => ?_⟩
      obtain ⟨acc, h1, h2, h3⟩ := bb.step nD (Same.keep s3) (fun _ z => z.elim) id (At.int _)
      refine ⟨acc, h1, by rw [h2, rng_len]; exact small1000 (by omega), ?_⟩
      rw [rng_succ]
      exact h3
    · rintro G1 bb
      rw [ly] at bb
      exact k D G1 bb.k.same nD (bb.done nND)
theorem bits_hg {B : Int} {b : Nat} (h : Bt b B) (l : b ≤ 60000000) : Builtin.Int.intBits B ≤ 60000000 := by
  unfold Builtin.Int.intBits
  split
  · omega
  · rename_i z
    have z : B ≠ 0 := fun e => z (beq_iff_eq.mpr e)
    have : B.natAbs.log2 < b := (Nat.log2_lt (by omega)).mpr h
    omega
theorem hg_small {x : Nat} (h : x ≤ 60000000) : Hg ((x : Nat) : Int) := ⟨26, by decide, by
  show ((x : Nat) : Int).natAbs < 2 ^ 26
  rw [Int.natAbs_natCast]
  have : (2 : Nat) ^ 26 = 67108864 := by decide
  omega⟩
theorem ok_rth {f fS fL C : Addr} {fd dS dL : FuncData} {x : Str} {kL : Nat} {st : Nat → (Nat → Int) → (Nat → Nat → Int) → Nat → Int} {y : Str} (F : Fun K "row_through" "row_through" sRth f fd) (T : TxtL mg) {tS : Tok} (mSH : mg "SHORT" = some (.int 2000 tS)) (lk : kL ≤ 33)
    (cShd : CalN P w K mg base "shortened" 33 ["tops", "bottom"] (spShd C) fS dS) (cLd : CalN P w K mg base x kL [y, "square"] (spLead C st) fL dL) :
    FnOk P w K mg base CX0 34 f fd ["tops", "bottom", "steps", "lead"] (spRth C st fL) := by
  refine F.ok scRth (fun vs H Q E h => ?_) (fun cdv A outer s H vs Q E hr33 h => ?_)
  · obtain ⟨N, p, q, n, L, b, t, b1, t1, z, B, U, r, rfl, _⟩ := h
    rfl
  · obtain ⟨N, p, q, n, L, b, t, b1, t1, z, B, U, r, rfl, hp, hq, al, n1, hb, ht, hb1, ht1, av, sz, stp, k⟩ := h
    have hrL : Room kL _ := hr33.mono lk
    obtain ⟨xs, hxs, lx, ex⟩ := At.lstR hq
    refine ⟨_, pss_cons (ps_set (i := 4) scRth.nd rfl (.inl rfl) (pe_glob (v := .int 2000) (by rfl) mSH ⟨_, rfl⟩))
      (pss_cons (ps_for PassesOwn.never rfl (pi_list (pv 2)) (pg_tup rfl (pgs_cons (pg_name (i := 5) scRth.nd rfl (.inl rfl)) (pgs_cons (pg_name (i := 6) scRth.nd rfl (.inl rfl)) pgs_nil)))
        (pss_cons (ps_par (i := 0) (j := 1) (by rfl) scRth.nd rfl rfl (by decide) rfl rfl (pa_cons (ItX.pe_callV (i := 3) (FnOk.raw cLd.G cLd.b .nil) hrL cLd.kp pass0 rfl (.inl rfl) (pa_cons (pv 0) (pa_cons (pv 5) pa_nil))) (pa_cons (pe_op RQ.op_mulH (pv 1) (pv 6)) pa_nil)) (by rfl))
        (pss_one (ps_if (pt_cmpR op_gt (pe_bits (pv 1)) (pv 4) (nomark _))
          (pss_cons (ps_asg (pe_call cShd.G hr33 rfl cShd.m cShd.kp cShd.b .nil pass0 (pa_cons (pv 0) (pa_cons (pv 1) pa_nil))) (pg_tup rfl (pgs_cons (pg_name (i := 0) scRth.nd rfl (.inl rfl)) (pgs_cons (pg_name (i := 1) scRth.nd rfl (.inl rfl)) pgs_nil))))
          (pss_one (ps_set (i := 4) scRth.nd rfl (.inl rfl) (pe_callB (call_max2 rfl) (by rfl) T.max (by decide +kernel) (pa_cons (pe_glob (v := .int 2000) (by rfl) mSH ⟨_, rfl⟩) (pa_cons (pe_op RQ.op_mulH pe_int (pe_bits (pv 1))) pa_nil))))))
          pss_nil))))
      (pss_one (ps_ret (pe_tup (pa_cons (pv 0) (pa_cons (pv 1) pa_nil)))))), ?_⟩
    refine ⟨_, rfl, q, rfl, ⟨_, SqL.of hxs⟩, for_it (walk_list (K := K) (a := q) (xs := xs)) (fun i σ H' => ∃ p' z' B' lo o5 o6, σ = [some (.ref p'), some (.int B'), some (.ref q), some (.ref fL), some (.int lo), o5, o6] ∧ Same H H' ∧ At C N H' (.ref p') (intL n z') ∧ Abv n (r i) z' B' (b + i * b1) (t + i * (t1 + n)))
      ⟨p, z, B, 2000, none, none, rfl, Same.refl H, hp, by rw [Nat.zero_mul, Nat.zero_mul]; exact av⟩ (fun i σ H' _ h => by obtain ⟨_, _, _, _, _, _, _, s, _⟩ := h; exact SqL.of (s _ _ hxs)) ?_ ?_⟩
    · rintro i v σ H1 H2 hi ⟨p', z', B', lo, o5, o6, rfl, s1, hp', av'⟩ ⟨rfl, hv⟩
      rw [lx] at hi
      obtain ⟨v', hv', hd⟩ := ex i hi
      rw [hv'] at hv
      obtain rfl := Option.some.inj hv
      have hd := hd.same s1
      obtain ⟨rv, rfl⟩ := hd.tupV
      obtain ⟨ys, hys, ly, ey⟩ := hd.tupE
      match ys, ly with
      | [w0, w1], _ =>
      have h0 := ey 0 w0 _ rfl rfl
      have h1 := (ey 1 w1 _ rfl rfl).intV
      subst h1
      obtain ⟨sq, rfl⟩ := h0.lstV
      refine ⟨rv, _, rfl, SqT.of hys, rfl, _, _, rfl, _, _, rfl, rfl, ?_⟩
      have iL : (i + 1) * b1 ≤ L * b1 := Nat.mul_le_mul_right _ hi
      have iT : (i + 1) * (t1 + n) ≤ L * (t1 + n) := Nat.mul_le_mul_right _ hi
      have eb : (i + 1) * b1 = i * b1 + b1 := Nat.succ_mul i b1
      have et : (i + 1) * (t1 + n) = i * (t1 + n) + (t1 + n) := Nat.succ_mul i _
      have szi := sz i hi
      have al2 := al.keep (Same.keep (N := N) s1)
      refine ⟨rfl, _, rfl, _, rfl, N, p', sq, n, z', fun a => topz (U i a) ((cbt (U i) n n : Nat) : Int), rfl, hp', h0, al2, n1, fun j hj => Hg.bt (av'.bt j hj) (by omega), fun a ha j hj => Hg.bt (szi.t a ha j hj) ht1, fun q' H3 s3 nq' hq' => ?_⟩
      refine ⟨_, rfl, _, rfl, _, _, rfl, rfl, ⟨Hg.bt av'.bb (by omega), Hg.bt szi.b hb1⟩, ?_⟩
      have st2 := (stp i hi z' B' _ _ av').up (b' := b + (i + 1) * b1) (t' := t + (i + 1) * (t1 + n)) (by omega) (by omega)
      refine ⟨_, _, rfl, ?_⟩
      refine ⟨_, rfl, _, rfl, _, rfl, _, _, rfl, rfl, _, rfl, ?_⟩
      refine ite2 (fun z1 => ?_) (fun z1 => ?_)
      · refine ⟨_, rfl, _, rfl, N, q', n, _, _, rfl, hq', al2.keep (Same.keep (N := N) s3), n1, st2.b0, fun v z2 B2 g H4 s4 hv g0 eB ez => ?_⟩
        have av2 := Abv_div st2 g0 eB ez
        obtain ⟨ru, rfl⟩ := hv.tupV
        obtain ⟨us, hus, lu, eu⟩ := hv.tupE
        match us, lu with
        | [u0, u1], _ =>
        have k0 := eu 0 u0 _ rfl rfl
        have k1 := (eu 1 u1 _ rfl rfl).intV
        subst k1
        obtain ⟨pz, rfl⟩ := k0.lstV
        refine ⟨ru, _, rfl, SqT.of hus, rfl, _, _, rfl, _, _, rfl, rfl, ?_⟩
        have hbit := bits_hg av2.bb (by omega)
        refine ⟨_, rfl, _, rfl, ?_⟩
        refine ⟨_, _, rfl, rfl, ⟨⟨2, by decide, show (2 : Int).natAbs < 2 ^ 2 by decide⟩, hg_small hbit⟩, _, _, rfl, ?_⟩
        exact ⟨pz, z2, B2, _, _, _, rfl, (s1.trans s3).trans s4, k0, av2⟩
      · exact ⟨q', _, _, _, _, _, rfl, s1.trans s3, hq', st2⟩
    · rintro σ H2 ⟨p', z', B', lo, o5, o6, rfl, s1, hp', av'⟩
      rw [lx] at av'
      refine ⟨_, rfl, _, rfl, (by show 2 ≤ sizeLine; decide), fun u nu => ?_⟩
      exact k (.ref u) z' B' _ (s1.trans (Same.upd nu)) (At.newT (al.keep (Same.keep (N := N) s1)) nu rfl (itemsC hp' (items1 (.int _)))) av'
end
end RX

set_option Elab.async false
set_option linter.all false
set_option maxRecDepth 100000
/-! letters: "abcd"[i] and "abcd".index(x) -/
namespace LX
open PySem PySem.Spec PyProof.Rows L2
abbrev abcd : Str := "abcd"
def ltr (i : Nat) : Str := ⟨#[97 + i]⟩
theorem abcd_at {i : Nat} (h : i < 4) : atI abcd.cps.toList (i : Int) = some (97 + i) := by
  have all : ∀ i : Nat, i < 4 → atI abcd.cps.toList (i : Int) = some (97 + i) := by decide +kernel
  exact all i h
theorem abcd_len : abcd.length ≤ sizeLine := by
  have e : abcd.length = 4 := by decide +kernel
  rw [e]
  decide
theorem found {i : Nat} (h : i < 4) : ∃ rest, Builtin.Str.occurrences abcd (ltr i) 0 abcd.length 1 = i :: rest := by
  have all : ∀ i, i < 4 → Builtin.Str.occurrences abcd (ltr i) 0 abcd.length 1 = [i] := by decide +kernel
  exact ⟨[], all i h⟩
def rLetter : V → List V → Hp → VK → Prop := fun x xs H Q => ∃ i : Nat, i < 4 ∧ x = .str abcd ∧ xs = [.str (ltr i)] ∧ Q (.int (i : Nat)) H
theorem mt_letter {X : Cx} : MtR X "str.index" rLetter := by
  intro pins s σ H x xs v us Q I rx rel told
  obtain ⟨i, lt, rfl, rfl, q⟩ := told
  obtain ⟨t, rfl⟩ := rx
  obtain ⟨_, rfl, u, rfl⟩ := vals1 rel
  obtain ⟨rest, at_i⟩ := found lt
  exact PySem.SC.index at_i ⟨.int (i : Nat), H, I.tok _, ⟨_, rfl⟩, q⟩
theorem ltr_inj {i j : Nat} : ltr i = ltr j ↔ i = j := by
  unfold ltr
  constructor
  · intro h
    injection h with h
    have := congrArg (fun (a : Array Nat) => a[0]?) h
    simp at this
    exact this
  · intro h
    rw [h]
end LX
namespace LX
open PySem
/-- the word with the letters w (0 for a) -/
def wd (w : List Nat) : Str := ⟨(w.map (97 + ·)).toArray⟩
theorem wd_len {w : List Nat} : (wd w).length = w.length := by
  unfold wd Str.length
  simp
theorem wd_cps {w : List Nat} : (wd w).cps.toList = w.map (97 + ·) := rfl
theorem wd_at {w : List Nat} {i : Nat} : (wd w).cps[i]? = w[i]?.map (97 + ·) := by
  unfold wd
  simp
theorem wd_append {u v : List Nat} : wd u ++ wd v = wd (u ++ v) := by
  show Str.append (wd u) (wd v) = _
  unfold Str.append wd
  simp
theorem wd_nil : wd [] = Str.empty := rfl
theorem wd_one {i : Nat} : wd [i] = ltr i := rfl
theorem wd_inj : ∀ {u v : List Nat}, wd u = wd v → u = v := by
  intro u v h
  have e : u.map (97 + ·) = v.map (97 + ·) := congrArg (fun s : Str => s.cps.toList) h
  have go : ∀ (u v : List Nat), u.map (97 + ·) = v.map (97 + ·) → u = v := by
    intro u
    induction u with
    | nil =>
      intro v h
      cases v with
      | nil => rfl
      | cons y v => cases h
    | cons x u ih =>
      intro v h
      cases v with
      | nil => cases h
      | cons y v =>
        rw [List.map_cons, List.map_cons] at h
        injection h with h1 h2
        rw [ih v h2, Nat.add_left_cancel h1]
  exact go u v e
theorem strjoin_wd : ∀ {w : List Nat}, Str.join Str.empty (w.map ltr) = wd w
  | [] => rfl
  | [x] => rfl
  | x :: y :: w => by
    show ltr x ++ Str.empty ++ Str.join Str.empty ((y :: w).map ltr) = _
    rw [strjoin_wd (w := y :: w)]
    show Str.append (Str.append (ltr x) Str.empty) (wd (y :: w)) = wd (x :: y :: w)
    unfold Str.append wd ltr Str.empty
    simp
theorem join_wd {w : List Nat} : Txt.join (Str.ofString "") (w.map ltr) = wd w := by
  have e : Str.ofString "" = Str.empty := by decide +kernel
  show Builtin.Str.glued (Str.ofString "") (w.map ltr) = _
  rw [StrLaws.glued_eq_join, e]
  exact strjoin_wd
end LX

set_option Elab.async false
set_option linter.all false
set_option maxRecDepth 100000
/-! the first k letters: the place of a letter -/
namespace LX
open PySem PySem.Spec PyProof.Rows L2
/-- the string of the first k letters -/
def abK (k : Nat) : Str := ⟨((List.range k).map (97 + ·)).toArray⟩
theorem foundK {k i : Nat} (hk : k ≤ 4) (h : i < k) : ∃ rest, Builtin.Str.occurrences (abK k) (ltr i) 0 (abK k).length 1 = i :: rest := by
  have all : ∀ k, k ≤ 4 → ∀ i, i < k → Builtin.Str.occurrences (abK k) (ltr i) 0 (abK k).length 1 = [i] := by decide +kernel
  exact ⟨[], all k hk i h⟩
def rLetterK : V → List V → Hp → VK → Prop := fun x xs H Q => ∃ k i : Nat, k ≤ 4 ∧ i < k ∧ x = .str (abK k) ∧ xs = [.str (ltr i)] ∧ Q (.int (i : Nat)) H
theorem mt_letterK {X : Cx} : MtR X "str.index" rLetterK := by
  intro pins s σ H x xs v us Q I rx rel told
  obtain ⟨k, i, hk, lt, rfl, rfl, q⟩ := told
  obtain ⟨t, rfl⟩ := rx
  obtain ⟨_, rfl, u, rfl⟩ := vals1 rel
  obtain ⟨rest, at_i⟩ := foundK hk lt
  exact PySem.SC.index at_i ⟨.int (i : Nat), H, I.tok _, ⟨_, rfl⟩, q⟩
theorem ltr_wd {i : Nat} : wd [i] = ltr i := rfl
theorem mem_abK {k i : Nat} (h : i < k) : 97 + i ∈ (abK k).cps.toList := by
  unfold abK
  simp
  exact h
theorem abK_len {k : Nat} : (abK k).length = k := by
  unfold abK Str.length
  simp
end LX

set_option Elab.async false
set_option linter.all false
set_option maxRecDepth 100000
set_option maxHeartbeats 1000000
/-! for x in reversed(a string) -/
namespace RS
open PySem PySem.Spec PyProof.Rows L2
theorem str_norev : typeLookup (.type "str") "__reversed__" = pure none := by
  rw [typeLookup_type, builtinLookup_eq_fast]
  kernel_rfl
theorem str_get : typeLookup (.type "str") "__getitem__" = pure (some (.builtin "str.__getitem__")) := by
  rw [typeLookup_type, builtinLookup_eq_fast]
  kernel_rfl
/-- reversed(x) stands at a, the next place is i -/
def Back (h : Heap) (a : Addr) (x : Str) (t : Tok) (i : Int) : Prop := ∃ o, h.get? a = some o ∧ o.cls = .type "reversed" ∧ o.data = .fields #[.str x t, rawInt i]
theorem Back.at {h h' : Heap} {a : Addr} {x : Str} {t : Tok} {i : Int} (b : Back h a x t i) (e : ∀ o, h.get? a = some o → h'.get? a = some o) : Back h' a x t i :=
  let ⟨o, ho, r⟩ := b
  ⟨o, e _ ho, r⟩
def backO (x : Str) (t : Tok) (i : Int) : Obj := { cls := .type "reversed", data := .fields #[.str x t, rawInt i] }
section
variable {x : Str} {t : Tok} {s : Shared} {prog : Program} {w : World} {A : Around} {E : Value → Shared → Prop}
theorem Back.ty {a : Addr} {i : Int} (b : Back s.heap a x t i) : s.TypeIs (.ref a) "reversed" :=
  let ⟨o, ho, hc, _⟩ := b
  ⟨o, ho, hc⟩
theorem new_back {R : Value → Shared → Prop} (short : x.length ≤ sizeLine) (then_ : R (.ref s.heap.objs.size) { s with heap := s.heap.push (backO x t ((x.length : Int) - 1)), toks := s.toks + 1 + 1 }) :
    codeAny (model prog w) A (.call (.builtin "reversed.__new__") ⟨[.type "reversed", .str x t], []⟩) (wants R E) s := by
  have hT : s.TypeIs (.str x t) "str" := typeIs_str s x t
  have l63 := line63
  refine codeAny_of_tree ?_
  show wpAny _ A.in1 (checkBuiltinCall "reversed.__new__" ⟨[.type "reversed", .str x t], []⟩ >>= fun _ => again (.builtin "reversed.__new__" ⟨[.type "reversed", .str x t], []⟩)) _ _ s
  refine wpAny_bind (wpAny_of_eq (F.newCall_reversed_1 _) (wpAny_pure ?here))
  case here =>
    refine And.intro (plainId_quiet F.plain_reversed_new _) (codeAny_builtin F.entry_reversed_new ?_)
    have plain := F.plain_reversed_new
    rw [Around.under_plainId plain _]
    unfold Builtin.«reversed.__new__»
    refine wpAny_bind (wpAny_of_eq (newClass_reversed _) ?a1)
    case a1 =>
    try dsimp only
    refine wpAny_bind (wpAny_of_eq (a := ()) (by first | rfl | kernel_rfl) ?a2)
    case a2 =>
    try dsimp only
    refine wpAny_bind (wpAny_of_eq (a := ()) (by first | rfl | kernel_rfl) ?a3)
    case a3 =>
    try dsimp only
    refine wpAny_bind (wpAny_specialOf hT str_norev ?_)
    try dsimp only
    refine wpAny_bind ?_
    wp_delta
    refine wpAny_bind (wpAny_isInstance (U := "dict") hT PySem.F.sub_str_dict ?_)
    try dsimp only
    try rw [if_neg Bool.false_ne_true]
    try dsimp only
    refine wpAny_bind (wpAny_specialOf hT str_get ?_)
    try dsimp only
    try rw [if_pos (by decide +kernel)]
    refine wpAny_pure ?_
    try dsimp only
    try rw [if_neg (by decide)]
    try dsimp only
    refine wpAny_bind (PySem.P.len_str (by omega) ?_)
    refine wpAny_bind (wpAny_of_eq (a := some ((x.length : Nat) : Int)) rfl ?_)
    try dsimp only
    refine wpAny_bind ?_
    show wpAny _ _ (newObj (.type "reversed") (.fields #[.str x t, rawInt ((x.length : Int) - 1)])) _ _ _
    exact wpAny_newObj_type (wpAny_pure then_)
theorem call_back {Q : Value → Shared → Prop} (short : x.length ≤ sizeLine) (then_ : Q (.ref s.heap.objs.size) { s with heap := s.heap.push (backO x t ((x.length : Int) - 1)), toks := s.toks + 1 + 1 }) :
    wpAny (model prog w) A (call (.type "reversed") [.str x t]) Q E s := by
  refine callType_codes (Q₁ := fun o s1 => s1.TypeIs o "reversed" ∧ Q o s1) RT.called_rt (F.typeCall_reversed_1 _) F.entry_object_init (new_back short ⟨⟨_, Heap.get?_push_size _ rfl, rfl⟩, then_⟩) ?_
  rintro o s1 ⟨h1, h2⟩
  exact ⟨h1, F.args_object_init_2 o _, object_init_meets RT.called_rt.init.lookup RT.called_rt.made (by decide) prog w A.in1 _ s1 ⟨h1, rfl, h2⟩⟩
theorem back_item {it : Addr} {i c : Nat} {Q : Option Value → Shared → Prop} (hit : Back s.heap it x t (i : Int)) (short : x.length ≤ sizeLine) (hi : i < x.length) (hx : x.cps[i]? = some c)
    (then_ : ∀ h', Back h' it x t ((i : Int) - 1) → Heap.SameBut it s.heap h' → Q (some (.str ⟨#[c]⟩ (s.toks + 1))) { s with heap := h', toks := s.toks + 1 + 1 }) : wpAny (model prog w) A (pyNext (.ref it)) Q E s := by
  obtain ⟨o, ho, hc, hd⟩ := id hit
  have hT : s.TypeIs (.str x t) "str" := typeIs_str s x t
  have l63 := line63
  unfold pyNext
  refine wpAny_bind (wpAny_attempt (wpAny_callSpecial?_slot (name := Str.ofString "__next__") hit.ty RT.slot_rt_next (wpAny_call_entry RT.slot_rt_next hit.ty RT.entry_rt_next ?_ (RT.args_rt_next _))))
  unfold Builtin.«reversed.__next__»
  refine wpAny_bind (wpAny_of_eq (a := (Value.ref it, [])) rfl ?b1)
  case b1 =>
  try dsimp only
  refine wpAny_bind (wpAny_field ho hd (x := Value.str x t) rfl ?_)
  try dsimp only
  refine wpAny_bind (wpAny_field ho hd (x := rawInt (i : Int)) rfl ?b2)
  case b2 =>
  show wpAny _ A.in1 (if (i : Int) < 0 then _ else _) _ _ s
  rw [if_neg (by omega)]
  try dsimp only
  refine wpAny_bind (wpAny_specialOf hT str_get ?_)
  try dsimp only
  try rw [if_neg (by decide)]
  try dsimp only
  refine wpAny_bind (wpAny_mkInt ?_)
  refine wpAny_bind (wpAny_attempt ?_)
  have at_i : seqIndex? (i : Int) x.length = some i := seqIndex_of (by omega) (by omega)
  refine PySem.P.getItem_str (s := { s with toks := s.toks + 1 }) (c := c) (by
    rw [decide_eq_false (by omega), decide_eq_false (by omega)]
    rfl) (by rw [at_i]; exact hx) ?_
  try dsimp only
  refine wpAny_bind (wpAny_field (s := { s with toks := s.toks + 1 + 1 }) ho hd (x := rawInt (i : Int)) rfl ?b3)
  case b3 =>
  try dsimp only
  refine wpAny_bind (wpAny_setField (s := { s with toks := s.toks + 1 + 1 }) ho hd (by simp) ?b4)
  case b4 =>
  have put : Back (s.heap.update it (Obj.mapFields (·.setIfInBounds 1 (rawInt ((i : Int) - 1))))) it x t ((i : Int) - 1) :=
    ⟨_, Heap.get?_update_self _ ho (Obj.isFreed_of_fields (Obj.data_mapFields hd _)), (Obj.cls_mapFields ..).trans hc, by rw [Obj.data_mapFields hd]; simp⟩
  first
    | exact wpAny_pure ⟨_, rfl, wpAny_pure (then_ _ put (Heap.SameBut.update ..))⟩
    | exact wpAny_bind (wpAny_pure (wpAny_pure ⟨_, rfl, wpAny_pure (then_ _ put (Heap.SameBut.update ..))⟩))
theorem back_end {it : Addr} {Q : Option Value → Shared → Prop} (calm : A.handled = none) (hit : Back s.heap it x t (-1)) (then_ : ∀ h', Heap.ExtBut it s.heap h' → Q none { s with heap := h' }) : wpAny (model prog w) A (pyNext (.ref it)) Q E s := by
  obtain ⟨o, ho, hc, hd⟩ := id hit
  unfold pyNext
  refine wpAny_bind (wpAny_attempt (wpAny_callSpecial?_slot (name := Str.ofString "__next__") hit.ty RT.slot_rt_next (wpAny_call_entry RT.slot_rt_next hit.ty RT.entry_rt_next ?_ (RT.args_rt_next _))))
  unfold Builtin.«reversed.__next__»
  refine wpAny_bind (wpAny_of_eq (a := (Value.ref it, [])) rfl ?b1)
  case b1 =>
  try dsimp only
  refine wpAny_bind (wpAny_field ho hd (x := Value.str x t) rfl ?_)
  try dsimp only
  refine wpAny_bind (wpAny_field ho hd (x := rawInt (-1)) rfl ?b2)
  case b2 =>
  show wpAny _ A.in1 (if (-1 : Int) < 0 then _ else _) _ _ s
  rw [if_pos (by decide)]
  try dsimp only
  refine wpAny_bind (wpAny_rule ?_)
  refine wpAny_bind ?_
  wp_delta
  refine wpAny_bind (wpAny_setField ho hd (by simp) ?b8)
  case b8 =>
  have once := Heap.get?_update_self (Obj.mapFields (·.setIfInBounds 1 (rawInt (-1)))) ho (Obj.isFreed_of_fields (Obj.data_mapFields hd _))
  refine wpAny_setField (s := { s with heap := s.heap.update it (Obj.mapFields (·.setIfInBounds 1 (rawInt (-1)))) }) once (Obj.data_mapFields hd _) (by simp) ?b5
  case b5 =>
  try dsimp only
  first
    | (show wpAny _ _ (newExc (.type "StopIteration") [] >>= _) _ _ _)
    | (refine wpAny_bind ?_
       show wpAny _ _ (newExc (.type "StopIteration") [] >>= _) _ _ _)
    | (refine wpAny_bind ?_
       wp_delta
       show wpAny _ _ (newExc (.type "StopIteration") [] >>= _) _ _ _)
  refine wpAny_bind ?_
  simp only [newExc, newTuple]
  refine wpAny_bind (wpAny_newObj_type ?b9 (by size_fits))
  case b9 =>
  refine wpAny_bind (m := firstArgMember _ _) (wpAny_of_eq (a := Value.none) (by first | rfl | (simp only [firstArgMember]; rfl)) ?b6)
  case b6 =>
  refine wpAny_newObj_type ?_ (by size_fits)
  simp only [raiseNew]
  refine wpAny_bind (wpAny_handled ?_)
  first | rw [show A.in1.handled = none from calm] | rw [calm]
  refine wpAny_bind (wpAny_pure (wpAny_throw ?b10))
  case b10 =>
  refine wpAny_bind (wpAny_isInstance (T := "StopIteration") (b := true) ⟨_, Heap.get?_push_size _ rfl, rfl⟩ isSubtype_stop ?b7)
  case b7 =>
  refine wpAny_pure (then_ _ ?_)
  have kept : Heap.ExtBut it s.heap ((s.heap.update it (Obj.mapFields (·.setIfInBounds 1 (rawInt (-1))))).update it (Obj.mapFields (·.setIfInBounds 0 Value.none))) :=
    fun b ob hb e => (Heap.get?_update_other _ _ (Ne.symm hb)).trans ((Heap.get?_update_other _ _ (Ne.symm hb)).trans e)
  exact (kept.push _).push _
theorem iter_back {it : Addr} {i : Int} {Q : Value → Shared → Prop} (hit : Back s.heap it x t i) (then_ : Q (.ref it) s) : wpAny (model prog w) A (pyIter (.ref it)) Q E s := by
  refine wpAny_pyIter_slot hit.ty RT.slot_rt_iter (wpAny_call_entry RT.slot_rt_iter hit.ty RT.entry_rt_iter ?_ (RT.args_rt_iter _))
  show wpAny _ _ (ret (.ref it)) _ _ s
  exact wpAny_pure ⟨_, rfl, "reversed", _, hit.ty, RT.slot_rt_next.lookup, then_⟩
end
/-- the letters of x from its end -/
def Itb (x : Str) : It := ⟨fun i _ => i < x.length, fun i H v H' => H' = H ∧ ∃ c, x.cps[x.length - 1 - i]? = some c ∧ v = .str ⟨#[c]⟩, fun i _ => x.length ≤ i⟩
theorem turn_back {P : Program} {w : World} {K : PySem.W.Frag} {tg : Expr} (it : Addr) (x : Str) (t : Tok) (short : x.length ≤ sizeLine) : Turn P w K tg (Itb x) [it] it (fun i h => i ≤ x.length ∧ Back h it x t ((x.length : Int) - 1 - (i : Nat))) where
  mem := by simp
  obj := fun i h st b hb => by
    obtain rfl : b = it := by simpa using hb
    obtain ⟨_, o, e, c, d⟩ := st
    refine ⟨o, e, fun v z => ?_⟩
    rw [d] at z
    cases z
  keep := fun i h h' st kept => ⟨st.1, st.2.at fun o e => kept it (by simp) o e⟩
  item := by
    intro Y hP hw hK hc i pins s σ H E I hf st hg
    subst hP hw hK
    have lt : i < x.length := hg
    obtain ⟨f0, f1, -, f3, f4, f5⟩ := hf it (by simp)
    obtain ⟨_, hit⟩ := st
    have back : (x.length : Int) - 1 - ((i : Nat) : Int) = ((x.length - 1 - i : Nat) : Int) := by omega
    rw [back] at hit
    have there : x.length - 1 - i < x.cps.size := by show x.length - 1 - i < x.length; omega
    refine back_item hit short (by omega) (Array.getElem?_eq_getElem there) fun h' st' sb => ?_
    have next : ((x.length - 1 - i : Nat) : Int) - 1 = (x.length : Int) - 1 - ((i + 1 : Nat) : Int) := by omega
    rw [next] at st'
    have I1 : Inv Y pins σ H { s with heap := h', toks := s.toks + 1 + 1 } := I.turned (t' := s.toks + 1 + 1) (fun b o hb e => (sb.2 b hb).trans e) f0 f1 f3 f4 f5
    obtain ⟨o, e, c, d⟩ := id st'
    exact ⟨_, rfl, go_of (s := { s with heap := h', toks := s.toks + 1 + 1 }) e c d (by decide) ⟨.str ⟨#[x.cps[x.length - 1 - i]]⟩, H, I1, ⟨_, rfl⟩, ⟨rfl, _, Array.getElem?_eq_getElem there, rfl⟩, ⟨lt, st'⟩, fun b hb => (hf b hb).1⟩⟩
  done := by
    intro Y hP hw hK hc i pins s σ H E I hf st hg
    subst hP hw hK
    obtain ⟨f0, f1, -, f3, f4, f5⟩ := hf it (by simp)
    obtain ⟨le, hit⟩ := st
    have ge : x.length ≤ i := hg
    have stop : (x.length : Int) - 1 - ((i : Nat) : Int) = -1 := by omega
    rw [stop] at hit
    exact back_end (I.ok.hd hc) hit fun h' eb => ⟨rfl, I.turned (t' := s.toks) (fun b o hb e => eb b o hb e) f0 f1 f3 f4 f5⟩
  self := fun A i s Q E st h => iter_back st.2 h
def iBack (ta : TA) : TI := fun σ H R => ta σ H fun vs H1 => ∃ x : Str, vs = [.str x] ∧ x.length ≤ sizeLine ∧ R (Itb x) H1
theorem pi_back {X : Cx} {tg e : Expr} {ta : TA} {p pos : Pos} (hg : Gl X "reversed") (hm : X.mg "reversed" = none) (ha : PA X [e] ta) (hs : starEach [e] X.env = [(false, eval e X.env)] := by rfl) : PI X tg (.Call (.Name "reversed" p) [e] [] pos) (iBack ta) := by
  refine ⟨fun pins s σ H R I told => ?_⟩
  refine Call_ (ld_blt I hg hm PyProof.Rows.boot_reversed (PyProof.Rows.callWith_type1 (thn (ha.run pos pins s σ H _ I told) ?_) hs rfl))
  rintro us s1 ⟨vs, H1, I1, rel, x, rfl, short, q⟩
  obtain ⟨u, rfl, t, rfl⟩ := vals1 rel
  have e0 : (x.length : Int) - 1 = (x.length : Int) - 1 - ((0 : Nat) : Int) := by omega
  refine call_back short (iter_back (x := x) (t := t) (i := (x.length : Int) - 1) ⟨_, Heap.get?_push_size _ rfl, rfl, rfl⟩ ?_)
  refine pi_one (tk := s1.toks + 1 + 1) I1 _ (turn_back _ x t short) ⟨Nat.zero_le _, ?_⟩ q
  rw [← e0]
  have laid := Heap.get?_push_size (h := s1.heap) (o := backO x t ((x.length : Int) - 1)) rfl
  exact ⟨_, laid, rfl, rfl⟩
end RS

set_option Elab.async false
set_option linter.all false
set_option maxRecDepth 100000
/-! range(n) as a value, walked later; either of two walks; calls of instances -/
namespace XC
open PySem PySem.Spec PyProof.Rows L2
section
variable {X : Cx} {tg : Expr}
theorem cr_range1 : CallR X (.type "range") (fun vs H Q => ∃ j, vs = [V.int j] ∧ ∀ p, H p = none → Q (.ref p) (upd H p (.rng 0 j))) := by
  intro pins s σ H vs us Q I r h
  obtain ⟨j, rfl, q⟩ := h
  obtain ⟨u1, rfl, t, rfl⟩ := vals1 r
  refine call_range_1 ⟨.ref s.heap.objs.size, upd H s.heap.objs.size (.rng 0 j), I.laid (t' := s.toks + 1 + 1) (fun b o e => Heap.get?_push_of_some _ e) (Nat.le_refl _) ?_, rfl, q _ (I.hok.fresh (Nat.le_refl _))⟩
  exact ⟨_, _, _, Heap.get?_push_size _ rfl⟩
def iRngO (te : TE) : TI := fun σ H R => te σ H fun v H1 => ∃ (a : Addr) (lo hi : Int), v = .ref a ∧ H1 a = some (.rng lo hi) ∧ -(2 ^ 62) ≤ lo ∧ lo < 2 ^ 62 ∧ -(2 ^ 62) ≤ hi ∧ hi < 2 ^ 62 ∧ R (Itr lo (hi - lo).toNat) H1
theorem pi_rng {e : Expr} {te : TE} (he : PE X e te) : PI X tg e (iRngO te) := by
  refine ⟨fun pins s σ H R I h => ?_⟩
  refine thn (he.run pins s σ H _ I h) fun v s1 ⟨x, H1, I1, r1, a, lo, hi, ex, ha, h1, h2, h3, h4, q⟩ => ?_
  subst ex
  obtain rfl : v = Value.ref a := r1
  obtain ⟨t1, t2, t3, ho⟩ := I1.hok a _ ha
  refine wpAny_pyIter_range ho (small_one h1 h2 h3 h4) ?_
  refine ⟨s1.heap.objs.size, [s1.heap.objs.size], _, _, H1, rfl, I1.kept (t' := s1.toks) fun b o e => Heap.get?_push_of_some _ e, turn_range _ lo (hi - lo).toNat, ?_, fun b hb => ?_, q⟩
  · have e1 : lo + ((0 : Nat) : Int) * 1 = lo := by simp
    have e2 : (((hi - lo).toNat : Nat) : Int) - ((0 : Nat) : Int) = Builtin.Range.rangeSize lo hi 1 := by rw [rangeSize_one]; split <;> omega
    show IsRangeIter _ _ (lo + ((0 : Nat) : Int) * 1) ((((hi - lo).toNat : Nat) : Int) - ((0 : Nat) : Int)) 1
    rw [e1, e2]
    exact Heap.get?_push_size _ rfl
  · have e : b = s1.heap.objs.size := by simpa using hb
    subst e
    exact I1.fpOk (Nat.le_refl _) (I1.hok.fresh (Nat.le_refl _))
/-- either walk -/
theorem pi_or {e : Expr} {w1 w2 : TI} (h1 : PI X tg e w1) (h2 : PI X tg e w2) : PI X tg e (fun σ H R => w1 σ H R ∨ w2 σ H R) :=
  ⟨fun pins s σ H R I h => h.elim (h1.run pins s σ H R I) (h2.run pins s σ H R I)⟩
end
end XC

set_option Elab.async false
set_option maxRecDepth 100000
namespace RX
open PySem L2 LX
/-! ### letters of words -/
abbrev sAlpha : Stmt := topS 25
theorem scAl : FnScope ["letters"] ["letters"] (defScope sAlpha) := ⟨rfl, rfl, rfl, by decide +kernel, rfl, by decide +kernel, by decide +kernel⟩
abbrev sCw : Stmt := topS 26
theorem scCw : FnScope ["letters", "word", "known", "sign"] ["letters", "word"] (defScope sCw) := ⟨rfl, rfl, rfl, by decide +kernel, rfl, by decide +kernel, by decide +kernel⟩
/-- letters below k -/
def Ltk (k : Nat) (u : List Nat) : Prop := ∀ x ∈ u, x < k
def spAl : Sp := fun vs H Q _ => ∃ k : Nat, vs = [.int (k : Int)] ∧ 1 ≤ k ∧ k ≤ 4 ∧ Q (.str (abK k)) H
def spCw : Sp := fun vs H Q _ => ∃ (k : Nat) (u : List Nat), vs = [.int (k : Int), .str (wd u)] ∧ 1 ≤ k ∧ k ≤ 4 ∧ Ltk k u ∧ Q .non H
def rLenS (K : PySem.W.Frag) : List V → Hp → VK → Prop := fun xs H Q => ∃ p ys, xs = [.ref p] ∧ (SqL K H p ys ∨ SqT K H p ys) ∧ Q (.int ys.length) H
theorem call_len_seqK {X : Cx} : CallR X (.builtin "len") (rLenS X.K) := call_len_seq
section
variable {P : Program} {w : World} {K : PySem.W.Frag} {mg : Str → Option Value} {base : Heap}
theorem ok_al {f : Addr} {fd : FuncData} {t : Tok} (F : Fun K "alphabet" "alphabet" sAlpha f fd) (mL : mg "LETTERS" = some (.str "abcd" t)) : FnOk P w K mg base CX0 1 f fd ["letters"] spAl := by
  refine F.ok scAl (fun vs H Q E h => ?_) (fun cdv A outer s H vs Q E hr h => ?_)
  · obtain ⟨k, rfl, _⟩ := h
    rfl
  · obtain ⟨k, rfl, k1, k4, kk⟩ := h
    refine ⟨_, pss_one (ps_ret (pe_slice sl_str (pe_glob (v := .str "abcd") (by rfl) mL ⟨_, rfl⟩) po_none (po_some (pv 0)))), ?_⟩
    refine ⟨_, rfl, _, rfl, _, rfl, abcd_len, ?_⟩
    have all : ∀ k : Nat, k ≤ 4 → cutS abcd none (some (k : Int)) = abK k := by decide +kernel
    rw [show cutS (PySem.Str.ofString "abcd") none (some (k : Int)) = abK k from all k k4]
    exact kk
theorem ok_cw {f fA : Addr} {fd dA : FuncData} (F : Fun K "check_word" "check_word" sCw f fd) (cAl : CalN P w K mg base "alphabet" 1 ["letters"] spAl fA dA) : FnOk P w K mg base CX0 2 f fd ["letters", "word"] spCw := by
  refine F.ok scCw (fun vs H Q E h => ?_) (fun cdv A outer s H vs Q E hr h => ?_)
  · obtain ⟨k, u, rfl, _⟩ := h
    rfl
  · obtain ⟨k, u, rfl, k1, k4, hu, kk⟩ := h
    have hr1 : Room 1 _ := hr
    refine ⟨_, pss_cons (ps_set (i := 2) scCw.nd rfl (.inl rfl) (pe_call cAl.G hr1 rfl cAl.m cAl.kp cAl.b .nil pass0 (pa_cons (pv 0) pa_nil)))
      (pss_one (ps_for PassesOwn.never rfl (pi_str (pv 1)) (pg_name (i := 3) scCw.nd rfl (.inl rfl))
        (pss_one (ps_if (pt_cmpR op_notIn_sign (pv 3) (pv 2) (by rfl))
          (pss_one ps_never)
          pss_nil)))), ?_⟩
    refine ⟨_, rfl, k, rfl, k1, k4, ?_⟩
    refine ⟨_, rfl, _, rfl, for_it (walk_str (z := wd u)) (fun i σ H' => ∃ y, σ = [some (.int (k : Int)), some (.str (wd u)), some (.str (abK k)), y] ∧ H' = H) ⟨none, rfl, rfl⟩ (fun _ _ _ _ _ => trivial) ?_ ?_⟩
    · rintro i x σ H1 H2 hi ⟨y, rfl, rfl⟩ ⟨rfl, c, hc, rfl⟩
      rw [wd_at] at hc
      cases e : u[i]? with
      | none => rw [e] at hc; cases hc
      | some x =>
        rw [e] at hc
        obtain rfl := Option.some.inj hc
        have lt := hu x (List.mem_of_getElem? e)
        refine ⟨_, rfl, _, rfl, 97 + x, abK k, rfl, rfl, _, rfl, ?_⟩
        rw [decide_eq_true (mem_abK lt)]
        exact iteF ⟨_, rfl, rfl⟩
    · rintro σ H1 ⟨y, rfl, rfl⟩
      exact kk
end
end RX

set_option Elab.async false
set_option maxRecDepth 100000
namespace RX
open PySem L2 LX VA
open RQ (Hg Bt)
/-! ### machines -/
abbrev sMi : Stmt := inClass (topS 28) 0
theorem scMi : FnScope ["self", "letters", "start", "steps", "end", "step", "row"] ["self", "letters", "start", "steps", "end"] (defScope sMi) := ⟨rfl, rfl, rfl, by decide +kernel, rfl, by decide +kernel, by decide +kernel⟩
abbrev outMi0 : Scope := { kind := .function, names := [(".0", .local), ("step", .local), ("tuple", .globalImplicit)], isGenerator := false, isCoroutine := false }
abbrev sSi : Stmt := inClass (topS 28) 1
theorem scSi : FnScope ["self"] ["self"] (defScope sSi) := ⟨rfl, rfl, rfl, by decide +kernel, rfl, by decide +kernel, by decide +kernel⟩
abbrev sFit : Stmt := inClass (topS 28) 8
theorem scFit : FnScope ["self", "size", "step", "row"] ["self"] (defScope sFit) := ⟨rfl, rfl, rfl, by decide +kernel, rfl, by decide +kernel, by decide +kernel⟩
abbrev outFit0 : Scope := { kind := .function, names := [(".0", .local), ("step", .local), ("len", .globalImplicit), ("all", .globalImplicit), ("size", .cell)], isGenerator := false, isCoroutine := false }
abbrev sSta : Stmt := inClass (topS 28) 10
theorem scSta : FnScope ["self", "letter", "at"] ["self", "letter"] (defScope sSta) := ⟨rfl, rfl, rfl, by decide +kernel, rfl, by decide +kernel, by decide +kernel⟩
abbrev sRwa : Stmt := inClass (topS 28) 9
theorem scRwa : FnScope ["self", "word", "tops", "bottom", "steps", "letter"] ["self", "word"] (defScope sRwa) := ⟨rfl, rfl, rfl, by decide +kernel, rfl, by decide +kernel, by decide +kernel⟩
abbrev sNum : Stmt := inClass (topS 28) 2
theorem scNum : FnScope ["self", "word", "tops", "bottom", "ends", "below"] ["self", "word"] (defScope sNum) := ⟨rfl, rfl, rfl, by decide +kernel, rfl, by decide +kernel, by decide +kernel⟩
abbrev sCall : Stmt := inClass (topS 28) 3
theorem scCall : FnScope ["self", "word"] ["self", "word"] (defScope sCall) := ⟨rfl, rfl, rfl, by decide +kernel, rfl, by decide +kernel, by decide +kernel⟩
structure Mc where
  k : Nat
  n : Nat
  s : Nat → Rat
  t : Nat → Nat → Nat → Rat
  e : Nat → Rat
def mf0 (k : Int) (vS vT vE : V) : List (Str × V) := putF "end" vE (putF "steps" vT (putF "start" vS (putF "letters" (.int k) [])))
def mf (k : Int) (vS vT vE : V) (ab : Addr) : List (Str × V) := putF "_above" (.ref ab) (mf0 k vS vT vE)
theorem lookup_mf0 (k : Int) (vS vT vE : V) (m : Str) : (mf0 k vS vT vE).lookup m = if m = "end" then some vE else if m = "steps" then some vT else if m = "start" then some vS else if m = "letters" then some (.int k) else none := by
  unfold mf0
  rw [lookup_putF, lookup_putF, lookup_putF, lookup_putF]
  rfl
theorem lookup_mf (k : Int) (vS vT vE : V) (ab : Addr) (m : Str) : (mf k vS vT vE ab).lookup m = if m = "_above" then some (.ref ab) else (mf0 k vS vT vE).lookup m := by
  unfold mf
  rw [lookup_putF]
section
variable {k : Int} {vS vT vE : V} {ab : Addr}
theorem mf0_l : (mf0 k vS vT vE).lookup ("letters" : Str) = some (.int k) := by
  rw [lookup_mf0, if_neg (by decide +kernel), if_neg (by decide +kernel), if_neg (by decide +kernel), if_pos rfl]
theorem mf0_s : (mf0 k vS vT vE).lookup ("start" : Str) = some vS := by
  rw [lookup_mf0, if_neg (by decide +kernel), if_neg (by decide +kernel), if_pos rfl]
theorem mf0_t : (mf0 k vS vT vE).lookup ("steps" : Str) = some vT := by
  rw [lookup_mf0, if_neg (by decide +kernel), if_pos rfl]
theorem mf0_e : (mf0 k vS vT vE).lookup ("end" : Str) = some vE := by
  rw [lookup_mf0, if_pos rfl]
theorem mf_l : (mf k vS vT vE ab).lookup ("letters" : Str) = some (.int k) := by
  rw [lookup_mf, if_neg (by decide +kernel)]; exact mf0_l
theorem mf_s : (mf k vS vT vE ab).lookup ("start" : Str) = some vS := by
  rw [lookup_mf, if_neg (by decide +kernel)]; exact mf0_s
theorem mf_t : (mf k vS vT vE ab).lookup ("steps" : Str) = some vT := by
  rw [lookup_mf, if_neg (by decide +kernel)]; exact mf0_t
theorem mf_e : (mf k vS vT vE ab).lookup ("end" : Str) = some vE := by
  rw [lookup_mf, if_neg (by decide +kernel)]; exact mf0_e
theorem mf_a : (mf k vS vT vE ab).lookup ("_above" : Str) = some (.ref ab) := by
  rw [lookup_mf, if_pos rfl]
theorem mf0_no {m : Str} (h1 : ¬ m = "end") (h2 : ¬ m = "steps") (h3 : ¬ m = "start") (h4 : ¬ m = "letters") : (mf0 k vS vT vE).lookup m = none := by
  rw [lookup_mf0, if_neg h1, if_neg h2, if_neg h3, if_neg h4]
theorem mf_no {m : Str} (h0 : ¬ m = "_above") (h1 : ¬ m = "end") (h2 : ¬ m = "steps") (h3 : ¬ m = "start") (h4 : ¬ m = "letters") : (mf k vS vT vE ab).lookup m = none := by
  rw [lookup_mf, if_neg h0]; exact mf0_no h1 h2 h3 h4
end
def stepsD (m : Mc) : Dat := .tup (rng m.k fun x => ratT m.n m.n (m.t x))
def absD (m : Mc) (x : Nat) : Dat := absT m.n m.n (m.t x)
/-- the machine m stands at p, what is worked out of its steps at ab -/
structure MachAt (C CM : Addr) (N : Addr → Prop) (H : Hp) (p ab : Addr) (m : Mc) : Prop where
  ex : ∃ dx vS vT vE, H p = some (.ins CM dx (mf (m.k : Int) vS vT vE ab)) ∧ At C N H vS (ratR m.n m.s) ∧ At C N H vT (stepsD m) ∧ At C N H vE (ratR m.n m.e)
  np : ¬ N p
  na : N ab
  av : ∃ xs, H ab = some (.lst xs) ∧ xs.length = m.k ∧ ∀ x, x < m.k → xs[x]? = some .non ∨ ∃ v, xs[x]? = some v ∧ v ≠ .non ∧ At C N H v (absD m x)
  k1 : 1 ≤ m.k
  k4 : m.k ≤ 4
  n1 : m.n ≤ 1000
theorem MachAt.keep {C CM : Addr} {N : Addr → Prop} {H H' : Hp} {p ab : Addr} {m : Mc} (h : MachAt C CM N H p ab m) (k : Keep N H H') (e : H' ab = H ab) : MachAt C CM N H' p ab m := by
  obtain ⟨⟨dx, vS, vT, vE, hp, hS, hT, hE⟩, np, na, ⟨xs, hx, l, av⟩, k1, k4, n1⟩ := h
  refine ⟨⟨dx, vS, vT, vE, k.k _ _ hp np, hS.keep k, hT.keep k, hE.keep k⟩, np, na, ⟨xs, by rw [e]; exact hx, l, fun x hx => ?_⟩, k1, k4, n1⟩
  rcases av x hx with h | ⟨v, h1, h2, h3⟩
  · exact .inl h
  · exact .inr ⟨v, h1, h2, h3.keep k⟩
theorem MachAt.same {C CM : Addr} {N : Addr → Prop} {H H' : Hp} {p ab : Addr} {m : Mc} (h : MachAt C CM N H p ab m) (s : Same H H') : MachAt C CM N H' p ab m := by
  obtain ⟨xs, hx, _, _⟩ := h.av
  exact h.keep (Same.keep s) (by rw [s _ _ hx, hx])
/-- another list changes -/
theorem MachAt.but {C CM : Addr} {N : Addr → Prop} {H H' : Hp} {p ab a : Addr} {m : Mc} (h : MachAt C CM N H p ab m) (b : But a H H') (ne : ab ≠ a) (n : N a) (t : H' a ≠ none) : MachAt C CM N H' p ab m := by
  obtain ⟨xs, hx, _, _⟩ := h.av
  exact h.keep (Keep.but b n t) (by rw [b _ _ hx ne, hx])
theorem MachAt.and {C CM : Addr} {N : Addr → Prop} {H : Hp} {p ab D : Addr} {m : Mc} (h : MachAt C CM N H p ab m) (f : H D = none) : MachAt C CM (And1 N D) H p ab m := by
  obtain ⟨⟨dx, vS, vT, vE, hp, hS, hT, hE⟩, np, na, ⟨xs, hx, l, av⟩, k1, k4, n1⟩ := h
  refine ⟨⟨dx, vS, vT, vE, hp, hS.and f, hT.and f, hE.and f⟩, fun z => ?_, .inl na, ⟨xs, hx, l, fun x hx => ?_⟩, k1, k4, n1⟩
  · rcases z with z | z
    · exact np z
    · rw [z, f] at hp; cases hp
  · rcases av x hx with h | ⟨v, h1, h2, h3⟩
    · exact .inl h
    · exact .inr ⟨v, h1, h2, h3.and f⟩
/-- sizes of its numbers -/
structure Msz (m : Mc) (b t : Nat) : Prop where
  sS : SzR m.n m.s b t
  sE : SzR m.n m.e b t
  sT : ∀ x, x < m.k → SzT m.n m.n (m.t x) b t
  b1 : b ≤ 12999
  t1 : t ≤ 100000
structure TxtM (K : PySem.W.Frag) (mg : Str → Option Value) (CM : Addr) : Prop where
  cl : Cls K CM
  nL : NoAttr K CM "letters"
  nS : NoAttr K CM "start"
  nT : NoAttr K CM "steps"
  nE : NoAttr K CM "end"
  nA : NoAttr K CM "_above"
  mgM : mg "Machine" = some (.ref CM)
/-- a method of a class -/
structure MetN (P : Program) (w : World) (K : PySem.W.Frag) (mg : Str → Option Value) (base : Heap) (C : Addr) (x : Str) (k : Nat) (ps : List Str) (sp : Sp) (f : Addr) (fd : FuncData) : Prop where
  G : FnOk P w K mg base CX0 k f fd ps sp
  m : Meth K C x f
  b : Binds K fd ps []
structure PropN (P : Program) (w : World) (K : PySem.W.Frag) (mg : Str → Option Value) (base : Heap) (C : Addr) (x : Str) (k : Nat) (sp : Sp) (q f : Addr) (fd : FuncData) : Prop where
  G : FnOk P w K mg base CX0 k f fd ["self"] sp
  p : PropOf K C x q f
  b : Binds K fd ["self"] []
def spSi (C CM : Addr) : Sp := fun vs H Q _ => ∃ (N : Addr → Prop) (p ab : Addr) (m : Mc), vs = [.ref p] ∧ MachAt C CM N H p ab m ∧ Q (.int (m.n : Int)) H
/-- before the last field is set -/
def spFit (C CM : Addr) : Sp := fun vs H Q _ => ∃ (N : Addr → Prop) (p dx : Addr) (vS vT vE : V) (m : Mc), vs = [.ref p] ∧ H p = some (.ins CM dx (mf0 (m.k : Int) vS vT vE)) ∧ At C N H vS (ratR m.n m.s) ∧ At C N H vT (stepsD m) ∧ At C N H vE (ratR m.n m.e) ∧ 1 ≤ m.k ∧ m.k ≤ 4 ∧ m.n ≤ 1000 ∧
  ∀ H', Same H H' → Q (.bl true) H'
def spSta (C CM : Addr) : Sp := fun vs H Q _ => ∃ (N : Addr → Prop) (p ab : Addr) (m : Mc) (x b t : Nat), vs = [.ref p, .str (ltr x)] ∧ MachAt C CM N H p ab m ∧ Alc N H ∧ x < m.k ∧ SzT m.n m.n (m.t x) b t ∧ b ≤ 12999 ∧ t ≤ 100000 ∧
  ∀ (v : V) (H' : Hp), But ab H H' → MachAt C CM N H' p ab m → At C N H' v (absD m x) → Q v H'
def rowN (m : Mc) (u : List Nat) : Nat → Rat := VN.row m.n m.t m.s u
def numN (m : Mc) (u : List Nat) : Rat := VM.dot (rowN m u) m.e m.n
def spRwa (C CM : Addr) : Sp := fun vs H Q _ => ∃ (N : Addr → Prop) (p ab : Addr) (m : Mc) (u : List Nat) (b t : Nat), vs = [.ref p, .str (wd u)] ∧ MachAt C CM N H p ab m ∧ Alc N H ∧ Ltk m.k u ∧ u.length ≤ 400 ∧ Msz m b t ∧
  ∀ (v : V) (z : Nat → Int) (B : Int) (H' : Hp), But ab H H' → MachAt C CM N H' p ab m → At C N H' v (.tup [intL m.n z, .int B]) → Abv m.n (rowN m u) z B (b * (u.length + 1)) (t + u.length * (t + m.n)) → Q v H'
def spNum (C CM : Addr) : Sp := fun vs H Q _ => ∃ (N : Addr → Prop) (p ab : Addr) (m : Mc) (u : List Nat) (b t : Nat), vs = [.ref p, .str (wd u)] ∧ MachAt C CM N H p ab m ∧ Alc N H ∧ Ltk m.k u ∧ u.length ≤ 400 ∧ Msz m b t ∧
  ∀ (r : Addr) (H' : Hp), But ab H H' → H r = none → MachAt C CM N H' p ab m → At C N H' (.ref r) (.rat (numN m u)) → Q (.ref r) H'
section
variable {P : Program} {w : World} {K : PySem.W.Frag} {mg : Str → Option Value} {base : Heap}
theorem ok_si {f C CM : Addr} {fd : FuncData} (F : Fun K "size" "Machine.size" sSi f fd) (T : TxtL mg) (TM : TxtM K mg CM) : FnOk P w K mg base CX0 1 f fd ["self"] (spSi C CM) := by
  refine F.ok scSi (fun vs H Q E h => ?_) (fun cdv A outer s H vs Q E hr h => ?_)
  · obtain ⟨N, p, ab, m, rfl, _⟩ := h
    rfl
  · obtain ⟨N, p, ab, m, rfl, hm, k⟩ := h
    obtain ⟨dx, vS, vT, vE, hp, hS, hT, hE⟩ := hm.ex
    obtain ⟨q, rfl⟩ := hS.tupV
    obtain ⟨xs, hx, l, _⟩ := At.tupR hS
    refine ⟨_, pss_one (ps_ret (pe_callB call_len_seq (by rfl) T.len PySem.boot_len (pa_cons (pe_fld (pv 0) rfl) pa_nil))), ?_⟩
    refine ⟨_, rfl, p, CM, dx, _, _, rfl, hp, TM.cl, TM.nS, mf_s, q, xs, rfl, .inr (SqT.of hx), ?_⟩
    rw [l]
    exact k
theorem ok_sta {f fA fT C CM : Addr} {fd dA dT : FuncData} (F : Fun K "_step_above" "Machine._step_above" sSta f fd) (TM : TxtM K mg CM) (cAl : CalN P w K mg base "alphabet" 1 ["letters"] spAl fA dA) (cTb : CalN P w K mg base "table_above" 34 ["table"] (spTb C) fT dT) :
    FnOk P w K mg base CX0 35 f fd ["self", "letter"] (spSta C CM) := by
  refine F.ok scSta (fun vs H Q E h => ?_) (fun cdv A outer s H vs Q E hr h => ?_)
  · obtain ⟨N, p, ab, m, x, b, t, rfl, _⟩ := h
    rfl
  · obtain ⟨N, p, ab, m, x, b, t, rfl, hm, al, hx, sz, b1, t1, k⟩ := h
    have hr1 : Room 1 _ := hr.mono (by decide)
    have hr34 : Room 34 _ := hr
    have hm0 := hm
    obtain ⟨⟨dx, vS, vT, vE, hp, hS, hT, hE⟩, np, na, ⟨xs, hxs, l, av⟩, k1, k4, n1⟩ := hm
    have pab : p ≠ ab := fun z => np (by rw [z]; exact na)
    refine ⟨_, pss_cons (ps_set (i := 2) scSta.nd rfl (.inl rfl) (pe_bm PySem.F.plainAttrs_str PySem.F.slot_str_index PySem.F.type_str_index mt_letterK (pe_call cAl.G hr1 rfl cAl.m cAl.kp cAl.b .nil pass0 (pa_cons (pe_fld (pv 0) rfl) pa_nil)) (pa_cons (pv 1) pa_nil)))
      (C8.pss_cut (ps_if (pt_cmpR op_isN1 (pe_ix ix_list (pe_fld (pv 0) rfl) (pv 2) (fun _ _ => rfl)) pe_non (nomark _))
        (pss_one (ps_asg (pe_call cTb.G hr34 rfl cTb.m cTb.kp cTb.b .nil pass0 (pa_cons (pe_ix ix_tup (pe_fld (pv 0) rfl) (pv 2) (fun _ _ => rfl)) pa_nil)) (pg_sub (pe_fld (pv 0) rfl) (pv 2) set_list)))
        pss_nil)
      (pss_one (ps_ret (pe_ix ix_list (pe_fld (pv 0) rfl) (pv 2) (fun _ _ => rfl))))), ?_⟩
    refine ⟨_, rfl, p, CM, dx, _, _, rfl, hp, TM.cl, TM.nL, mf_l, m.k, rfl, k1, k4, rfl, _, rfl, m.k, x, k4, hx, rfl, rfl, ?_⟩
    refine ⟨fun σ' H' => ∃ v ys, σ' = [some (.ref p), some (.str (ltr x)), some (.int (x : Int))] ∧ But ab H H' ∧ MachAt C CM N H' p ab m ∧ H' p = some (.ins CM dx (mf (m.k : Int) vS vT vE ab)) ∧ H' ab = some (.lst ys) ∧ ys[x]? = some v ∧ At C N H' v (absD m x), ?_, ?_⟩
    · have hi : atI xs (x : Int) = some (xs[x]'(by omega)) := at_of rfl (List.getElem?_eq_getElem _)
      have hxx : xs[x]? = some (xs[x]'(by omega)) := List.getElem?_eq_getElem _
      refine ⟨_, rfl, p, CM, dx, _, _, rfl, hp, TM.cl, TM.nA, mf_a, _, rfl, ab, xs, _, _, rfl, rfl, SqL.of hxs, hi, rfl, _, rfl, ?_⟩
      generalize hv : xs[x]'(by omega) = v at hi hxx
      rcases av x hx with h | ⟨v', h1, h2, h3⟩
      · rw [hxx] at h
        obtain rfl := Option.some.inj h
        refine itT (decide_eq_true rfl) ?_
        obtain ⟨q, rfl⟩ := hT.tupV
        obtain ⟨ts, hts, lt, et⟩ := At.tupR hT
        obtain ⟨y, hy, hyd⟩ := et x hx
        obtain ⟨ty, rfl⟩ := hyd.tupV
        refine ⟨_, rfl, p, CM, dx, _, _, rfl, hp, TM.cl, TM.nT, mf_t, _, rfl, q, ts, _, _, rfl, rfl, SqT.of hts, at_of rfl hy, N, ty, m.n, m.n, b, t, m.t x, rfl, hyd, al, n1, n1, sz, b1, by omega, fun r H1 s1 nr hr1' => ?_⟩
        have hp1 := s1 _ _ hp
        have hxs1 := s1 _ _ hxs
        have k1' : Keep N H1 (upd H1 ab (.lst (xs.set x (.ref r)))) := Keep.upd na
        refine ⟨_, rfl, p, CM, dx, _, _, rfl, hp1, TM.cl, TM.nA, mf_a, _, rfl, ab, xs, _, x, rfl, rfl, hxs1, ixN_at rfl (by omega), ?_⟩
        have hb : But ab H (upd H1 ab (.lst (xs.set x (.ref r)))) := fun c o hc n => by rw [upd_ne n]; exact s1 _ _ hc
        have lx : (xs.set x (.ref r)).length = m.k := by rw [List.length_set]; exact l
        refine ⟨.ref r, xs.set x (.ref r), rfl, hb, ?_, by rw [upd_ne pab]; exact hp1, upd_same, List.getElem?_set_self (by omega), hr1'.keep k1'⟩
        refine ⟨⟨dx, vS, _, vE, by rw [upd_ne pab]; exact hp1, (hS.same s1).keep k1', (hT.same s1).keep k1', (hE.same s1).keep k1'⟩, np, na, ⟨_, upd_same, lx, fun y hy => ?_⟩, k1, k4, n1⟩
        by_cases e : y = x
        · subst e
          exact .inr ⟨.ref r, List.getElem?_set_self (by omega), (fun z => nomatch z), hr1'.keep k1'⟩
        · rw [List.getElem?_set_ne (by omega)]
          rcases av y hy with h | ⟨v', h1, h2, h3⟩
          · exact .inl h
          · exact .inr ⟨v', h1, h2, (h3.same s1).keep k1'⟩
      · rw [hxx] at h1
        obtain rfl := Option.some.inj h1
        refine itF (decide_eq_false h2) ?_
        exact ⟨v, xs, rfl, But.refl ab H, hm0, hp, hxs, hxx, h3⟩
    · rintro σ' H1 ⟨v, ys, rfl, b1', hm1, hp1, hys, hv, hd⟩
      refine ⟨_, rfl, p, CM, dx, _, _, rfl, hp1, TM.cl, TM.nA, mf_a, _, rfl, ab, ys, _, _, rfl, rfl, SqL.of hys, at_of rfl hv, ?_⟩
      exact k v H1 b1' hm1 hd
theorem row_snoc {n : Nat} {t : Nat → Nat → Nat → Rat} {s : Nat → Rat} {u : List Nat} {x : Nat} : VN.row n t s (u ++ [x]) = fun j => VM.dot (VN.row n t s u) (fun i => t x i j) n := by
  rw [VN.row_append]
  rfl
theorem MachAt.there {C CM : Addr} {N : Addr → Prop} {H : Hp} {p ab : Addr} {m : Mc} (h : MachAt C CM N H p ab m) : H ab ≠ none := by
  obtain ⟨xs, hx, _⟩ := h.av
  rw [hx]; intro z; cases z
theorem MachAt.less {C CM : Addr} {N M : Addr → Prop} {H : Hp} {p ab : Addr} {m : Mc} (h : MachAt C CM N H p ab m) (s : ∀ b, M b → N b) (na : M ab) : MachAt C CM M H p ab m := by
  obtain ⟨⟨dx, vS, vT, vE, hp, hS, hT, hE⟩, np, _, ⟨xs, hx, l, av⟩, k1, k4, n1⟩ := h
  refine ⟨⟨dx, vS, vT, vE, hp, hS.less s, hT.less s, hE.less s⟩, fun z => np (s _ z), na, ⟨xs, hx, l, fun x hx => ?_⟩, k1, k4, n1⟩
  rcases av x hx with h | ⟨v, h1, h2, h3⟩
  · exact .inl h
  · exact .inr ⟨v, h1, h2, h3.less s⟩
theorem Keep.toBut {H H' : Hp} {a : Addr} (k : Keep (fun b => b = a) H H') : But a H H' := fun c o hc ne => k.k c o hc ne
/-- the steps of letters are gathered in a list -/
structure Gath (C CM : Addr) (N : Addr → Prop) (H0 : Hp) (D p ab : Addr) (m : Mc) (ds : List Dat) (G : Hp) : Prop where
  b : Bld C (fun b => b = ab) N H0 D ds G
  m : MachAt C CM (And1 N D) G p ab m
theorem gath0 {C CM : Addr} {N : Addr → Prop} {H0 : Hp} {D p ab : Addr} {m : Mc} (h : MachAt C CM N H0 p ab m) (nD : H0 D = none) : Gath C CM N H0 D p ab m [] (upd H0 D (.lst [])) :=
  ⟨bld0 nD, (h.and nD).same (Same.upd nD)⟩
theorem Gath.step {C CM : Addr} {N : Addr → Prop} {H0 G G' : Hp} {D p ab : Addr} {m : Mc} {ds : List Dat} {v : V} {d : Dat} (g : Gath C CM N H0 D p ab m ds G) (nD : H0 D = none) (na : N ab) (ne : ab ≠ D) (b : But ab G G') (h : MachAt C CM (And1 N D) G' p ab m) (hv : At C (And1 N D) G' v d) :
    ∃ acc, G' D = some (.lst acc) ∧ acc.length = ds.length ∧ Gath C CM N H0 D p ab m (ds ++ [d]) (upd G' D (.lst (acc ++ [v]))) := by
  obtain ⟨acc, h1, h2, h3⟩ := g.b.step nD (Keep.but (N := fun b => b = ab) b rfl h.there) (fun b e => by rw [e]; exact na) (Ne.symm ne) hv
  refine ⟨acc, h1, h2, h3, h.but (But.upd D G' _) ne (.inr rfl) (by rw [upd_same]; intro z; cases z)⟩
theorem ok_rwa {f fC fR fS fW fT C CM : Addr} {fd dC dR dS dW dT : FuncData} (F : Fun K "_row_above" "Machine._row_above" sRwa f fd) (TM : TxtM K mg CM) (cCw : CalN P w K mg base "check_word" 2 ["letters", "word"] spCw fC dC)
    (cRa : CalN P w K mg base "row_above" 34 ["row"] (spRa C) fR dR) (cSt : MetN P w K mg base CM "_step_above" 35 ["self", "letter"] (spSta C CM) fS dS) (cWr : CalN P w K mg base "whole_row_times" 1 ["row", "square"] (spWr C) fW dW)
    (cRth : CalN P w K mg base "row_through" 34 ["tops", "bottom", "steps", "lead"] (spRth C stR fW) fT dT) :
    FnOk P w K mg base CX0 36 f fd ["self", "word"] (spRwa C CM) := by
  refine F.ok scRwa (fun vs H Q E h => ?_) (fun cdv A outer s H vs Q E hr h => ?_)
  · obtain ⟨N, p, ab, m, u, b, t, rfl, _⟩ := h
    rfl
  · obtain ⟨N, p, ab, m, u, b, t, rfl, hm, al, hu, lu, sz, k⟩ := h
    have hr2 : Room 2 _ := hr.mono (by decide)
    have hr34 : Room 34 _ := hr.mono (by decide)
    have hr35 : Room 35 _ := hr
    have k1 := hm.k1
    have k4 := hm.k4
    have n1 := hm.n1
    have na := hm.na
    have b1 := sz.b1
    have t1 := sz.t1
    obtain ⟨dx, vS, vT, vE, hp, hS, hT, hE⟩ := hm.ex
    obtain ⟨qs, rfl⟩ := hS.tupV
    refine ⟨_, pss_cons (ps_expr (pe_call cCw.G hr2 rfl cCw.m cCw.kp cCw.b .nil pass0 (pa_cons (pe_fld (pv 0) rfl) (pa_cons (pv 1) pa_nil))))
      (pss_cons (ps_asg (pe_call cRa.G hr34 rfl cRa.m cRa.kp cRa.b .nil pass0 (pa_cons (pe_fld (pv 0) rfl) pa_nil)) (pg_tup rfl (pgs_cons (pg_name (i := 2) scRwa.nd rfl (.inl rfl)) (pgs_cons (pg_name (i := 3) scRwa.nd rfl (.inl rfl)) pgs_nil))))
      (pss_cons (ps_setLc (i := 4) (own := [("letter", 5)]) (g := gName 5) (tt := tYes) rfl scRwa.nd rfl rfl (sw_true rfl rfl rfl (by decide +kernel)) (pi_str (pv 1)) (blkOk_by (N := ["self", "word", "tops", "bottom", "steps", "letter"]) (sc := (defScope sRwa)) (by decide +kernel)) (fun _ _ _ _ _ => (pg_name (i := 5) scRwa.nd rfl (.inl rfl))) (fun _ _ _ _ _ => pts_nil) (fun _ _ _ _ _ => (pe_meth (pv 0) TM.cl cSt.m cSt.G hr35 cSt.b .nil pass0 (pa_cons (pv 5) pa_nil))))
      (pss_one (ps_ret (pe_call cRth.G hr34 rfl cRth.m cRth.kp cRth.b .nil pass0 (pa_cons (pv 2) (pa_cons (pv 3) (pa_cons (pv 4) (pa_cons (pe_glob (v := .ref _) (by rfl) cWr.m rfl) pa_nil))))))))), ?_⟩
    refine ⟨_, rfl, p, CM, dx, _, _, rfl, hp, TM.cl, TM.nL, mf_l, _, rfl, m.k, u, rfl, k1, k4, hu, ?_⟩
    refine ⟨_, rfl, p, CM, dx, _, _, rfl, hp, TM.cl, TM.nS, mf_s, N, qs, m.n, b, t, m.s, rfl, hS, al, n1, sz.sS, b1, by omega, fun r H1 s1 nr hr0 => ?_⟩
    obtain ⟨xs, hx, lx, ex⟩ := hr0.tupE
    match xs, lx with
    | [v0, v1], _ =>
    have h0 := ex 0 v0 _ rfl rfl
    have h1 := (ex 1 v1 _ rfl rfl).intV
    subst h1
    obtain ⟨q, rfl⟩ := h0.lstV
    refine ⟨r, _, rfl, SqT.of hx, rfl, _, _, rfl, _, _, rfl, rfl, ?_⟩
    have hm1 := hm.same s1
    have al1 := al.keep (Same.keep (N := N) s1)
    refine ⟨_, rfl, _, rfl, fun D nD => ?_⟩
    have nND := al1.fresh nD
    have ne : ab ≠ D := fun e => nND (by rw [← e]; exact na)
    refine lc_it (walk_str (z := wd u)) (fun i G => Gath C CM N H1 D p ab m (rng i fun i => absD m (u.getD i 0)) G) (gath0 hm1 nD) (fun _ _ _ _ => trivial) ?_ ?_
    · rintro i x G1 G2 hi g ⟨rfl, c, hc, rfl⟩
      have il : i < u.length := by
        have : (wd u).cps.size = u.length := wd_len
        rw [this] at hi
        exact hi
      rw [wd_at, List.getElem?_eq_getElem il] at hc
      obtain rfl := Option.some.inj hc
      have xk : u[i] < m.k := hu _ (List.getElem_mem il)
      have ed : u.getD i 0 = u[i] := by rw [List.getD_eq_getElem?_getD, List.getElem?_eq_getElem il]; rfl
      obtain ⟨dx2, vS2, vT2, vE2, hp2, _, _, _⟩ := g.m.ex
      refine ⟨rfl, _, rfl, p, dx2, _, rfl, hp2, mf_no (by decide +kernel) (by decide +kernel) (by decide +kernel) (by decide +kernel) (by decide +kernel), _, rfl, And1 N D, p, ab, m, u[i], b, t, rfl, g.m, g.b.alc al1, xk, sz.sT _ xk, b1, t1, fun v H4 b4 hm4 hv => ?_⟩
      obtain ⟨acc, h1, h2, h3⟩ := g.step nD na ne b4 hm4 hv
      refine ⟨acc, h1, by rw [h2, rng_len]; exact small1000 (by omega), ?_⟩
      rw [rng_succ, ed]
      exact h3
    · rintro G1 g
      have e1 : (wd u).cps.size = u.length := wd_len
      rw [e1] at g
      have bG : But ab H1 G1 := Keep.toBut g.b.k
      have kG : Keep N H1 G1 := g.b.k.more fun b e => by rw [e]; exact na
      have mG : MachAt C CM N G1 p ab m := g.m.less (fun _ z => .inl z) na
      have bz : t + u.length * (t + m.n) ≤ 60000000 := by
        have : u.length * (t + m.n) ≤ 400 * (100000 + 1000) := Nat.mul_le_mul lu (by omega)
        omega
      have bb : b + u.length * b ≤ 60000000 := by
        have : u.length * b ≤ 400 * 12999 := Nat.mul_le_mul lu b1
        omega
      refine ⟨_, rfl, _, rfl, _, rfl, N, q, D, m.n, u.length, b, t, b, t, _, _, fun i => m.t (u.getD i 0), fun i => rowN m (u.take i), rfl, h0.keep kG, g.b.done nND, al1.keep kG, n1, bb, bz, by omega, by omega, abv_row sz.sS, fun i hi => ?_, fun i hi z B b' t' av => ?_, fun v z B H5 s5 hv av => ?_⟩
      · have : u.getD i 0 < m.k := by
          rw [List.getD_eq_getElem?_getD, List.getElem?_eq_getElem hi]
          exact hu _ (List.getElem_mem hi)
        exact sz.sT _ this
      · have e : u.take (i + 1) = u.take i ++ [u.getD i 0] := by
          rw [List.take_add_one, List.getD_eq_getElem?_getD, List.getElem?_eq_getElem hi]
          rfl
        have xk : u.getD i 0 < m.k := by
          rw [List.getD_eq_getElem?_getD, List.getElem?_eq_getElem hi]
          exact hu _ (List.getElem_mem hi)
        have er : rowN m (u.take (i + 1)) = fun j => VM.dot (rowN m (u.take i)) (fun l => m.t (u.getD i 0) l j) m.n := by
          unfold rowN
          rw [e, row_snoc]
        show Abv m.n (rowN m (u.take (i + 1))) _ _ _ _
        rw [er]
        exact abv_step av (sz.sT _ xk)
      · simp only [List.take_length] at av
        exact k v z B H5 (((Same.but s1).trans bG).trans (Same.but s5)) (mG.same s5) hv (av.up (by rw [Nat.mul_succ, Nat.mul_comm]; omega) (Nat.le_refl _))
theorem ok_num {f fR fA fW fI C CM : Addr} {fd dR dA dW dI : FuncData} (F : Fun K "number" "Machine.number" sNum f fd) (TR : TxtR K mg C) (TM : TxtM K mg CM) (M : Mk K C fI) (GI : FnOk P w K mg base CX0 33 fI dI ["self", "top", "bottom"] (spInitB C)) (bI : Binds K dI ["self", "top", "bottom"] [])
    (cRw : MetN P w K mg base CM "_row_above" 36 ["self", "word"] (spRwa C CM) fR dR) (cRa : CalN P w K mg base "row_above" 34 ["row"] (spRa C) fA dA) (cWp : CalN P w K mg base "whole_product" 1 ["one", "other"] (spWp C) fW dW) :
    FnOk P w K mg base CX0 37 f fd ["self", "word"] (spNum C CM) := by
  refine F.ok scNum (fun vs H Q E h => ?_) (fun cdv A outer s H vs Q E hr h => ?_)
  · obtain ⟨N, p, ab, m, u, b, t, rfl, _⟩ := h
    rfl
  · obtain ⟨N, p, ab, m, u, b, t, rfl, hm, al, hu, lu, sz, k⟩ := h
    have hr1 : Room 1 _ := hr.mono (by decide)
    have hr34 : Room 34 _ := hr.mono (by decide)
    have hr36 : Room 36 _ := hr
    have n1 := hm.n1
    have na := hm.na
    have b1 := sz.b1
    have t1 := sz.t1
    obtain ⟨dx, vS, vT, vE, hp, hS, hT, hE⟩ := hm.ex
    refine ⟨_, pss_cons (ps_asg (pe_meth (pv 0) TM.cl cRw.m cRw.G hr36 cRw.b .nil pass0 (pa_cons (pv 1) pa_nil)) (pg_tup rfl (pgs_cons (pg_name (i := 2) scNum.nd rfl (.inl rfl)) (pgs_cons (pg_name (i := 3) scNum.nd rfl (.inl rfl)) pgs_nil))))
      (pss_cons (ps_asg (pe_call cRa.G hr34 rfl cRa.m cRa.kp cRa.b .nil pass0 (pa_cons (pe_fld (pv 0) rfl) pa_nil)) (pg_tup rfl (pgs_cons (pg_name (i := 4) scNum.nd rfl (.inl rfl)) (pgs_cons (pg_name (i := 5) scNum.nd rfl (.inl rfl)) pgs_nil))))
      (pss_one (ps_ret (pe_make M GI hr34 rfl TR.mgC bI .nil pass0 (pa_cons (pe_call cWp.G hr1 rfl cWp.m cWp.kp cWp.b .nil pass0 (pa_cons (pv 2) (pa_cons (pv 4) pa_nil))) (pa_cons (pe_op RQ.op_mulH (pv 3) (pv 5)) pa_nil)))))), ?_⟩
    refine ⟨_, rfl, p, dx, _, rfl, hp, mf_no (by decide +kernel) (by decide +kernel) (by decide +kernel) (by decide +kernel) (by decide +kernel), _, rfl, N, p, ab, m, u, b, t, rfl, hm, al, hu, lu, sz, fun v z B H1 b1' hm1 hv av => ?_⟩
    have there : ∀ {G : Hp}, MachAt C CM N G p ab m → G ab ≠ none := fun h => by
      obtain ⟨xs, hx, _⟩ := h.av
      rw [hx]; intro z; cases z
    have kp1 : Keep N H H1 := Keep.but b1' na (there hm1)
    obtain ⟨r, rfl⟩ := hv.tupV
    obtain ⟨xs, hx, lx, ex⟩ := hv.tupE
    match xs, lx with
    | [w0, w1], _ =>
    have h0 := ex 0 w0 _ rfl rfl
    have h1 := (ex 1 w1 _ rfl rfl).intV
    subst h1
    obtain ⟨tq, rfl⟩ := h0.lstV
    refine ⟨r, _, rfl, SqT.of hx, rfl, _, _, rfl, _, _, rfl, rfl, ?_⟩
    obtain ⟨dx1, vS1, vT1, vE1, hp1, hS1, hT1, hE1⟩ := hm1.ex
    obtain ⟨qe, rfl⟩ := hE1.tupV
    refine ⟨_, rfl, p, CM, dx1, _, _, rfl, hp1, TM.cl, TM.nE, mf_e, N, qe, m.n, b, t, m.e, rfl, hE1, al.keep kp1, n1, sz.sE, b1, by omega, fun r2 H2 s2 nr2 hr2 => ?_⟩
    obtain ⟨xs2, hx2, lx2, ex2⟩ := hr2.tupE
    match xs2, lx2 with
    | [y0, y1], _ =>
    have g0 := ex2 0 y0 _ rfl rfl
    have g1 := (ex2 1 y1 _ rfl rfl).intV
    subst g1
    obtain ⟨eq, rfl⟩ := g0.lstV
    refine ⟨r2, _, rfl, SqT.of hx2, rfl, _, _, rfl, _, _, rfl, rfl, ?_⟩
    have bz : t + u.length * (t + m.n) ≤ 60000000 := by
      have : u.length * (t + m.n) ≤ 400 * (100000 + 1000) := Nat.mul_le_mul lu (by omega)
      omega
    have bb : b * (u.length + 1) ≤ 60000000 := by
      have : b * (u.length + 1) ≤ 12999 * 401 := Nat.mul_le_mul b1 (by omega)
      omega
    refine ⟨_, rfl, _, rfl, N, tq, eq, m.n, z, _, rfl, h0.same s2, g0, n1, fun j hj => ⟨Hg.bt (av.bt j hj) bz, Hg.bt (sz.sE.t j hj) (by omega)⟩, fun H3 s3 => ?_⟩
    refine ⟨_, rfl, _, rfl, _, _, rfl, rfl, ⟨Hg.bt av.bb bb, Hg.bt sz.sE.b (by omega)⟩, fun x dx nx nd _ => ?_⟩
    have b0 : B * ((cb m.e m.n : Nat) : Int) ≠ 0 := Int.mul_ne_zero av.b0 cb_ne
    refine make4 b0 nx nd fun H4 s4 hR => ⟨rfl, ?_⟩
    have e := abv_sum (p := m.e) av (y := topz m.e ((cb m.e m.n : Nat) : Int)) (c := ((cb m.e m.n : Nat) : Int)) fun i hi => topz_eq (Int.natCast_dvd_natCast.mpr (cb_dvd hi))
    obtain ⟨e1, e2⟩ := RQ.low b0 e
    rw [e1, e2] at hR
    have sA := (s2.trans s3).trans s4
    have nH : H x = none := kp1.free ((s2.trans s3).free nx)
    exact k x H4 (b1'.trans (Same.but sA)) nH (hm1.same sA) (.rat hR (al.fresh nH))
theorem ok_call {f fN C CM : Addr} {fd dN : FuncData} (F : Fun K "__call__" "Machine.__call__" sCall f fd) (TM : TxtM K mg CM) (cNu : MetN P w K mg base CM "number" 37 ["self", "word"] (spNum C CM) fN dN) :
    FnOk P w K mg base CX0 38 f fd ["self", "word"] (spNum C CM) := by
  refine F.ok scCall (fun vs H Q E h => ?_) (fun cdv A outer s H vs Q E hr h => ?_)
  · obtain ⟨N, p, ab, m, u, b, t, rfl, _⟩ := h
    rfl
  · obtain ⟨N, p, ab, m, u, b, t, rfl, hm, al, hu, lu, sz, k⟩ := h
    have hr37 : Room 37 _ := hr
    obtain ⟨dx, vS, vT, vE, hp, hS, hT, hE⟩ := hm.ex
    refine ⟨_, pss_one (ps_ret (pe_meth (pv 0) TM.cl cNu.m cNu.G hr37 cNu.b .nil pass0 (pa_cons (pv 1) pa_nil))), ?_⟩
    exact ⟨_, rfl, p, dx, _, rfl, hp, mf_no (by decide +kernel) (by decide +kernel) (by decide +kernel) (by decide +kernel) (by decide +kernel), _, rfl, N, p, ab, m, u, b, t, rfl, hm, al, hu, lu, sz, k⟩
theorem rAll_all {bs : List Bool} (h : ∀ b ∈ bs, b = true) : bs.all id = true := by
  rw [List.all_eq_true]
  exact h
def trues (n : Nat) : List V := List.replicate n (V.bl true)
theorem trues_len {n : Nat} : (trues n).length = n := List.length_replicate
theorem trues_succ {n : Nat} : trues (n + 1) = trues n ++ [V.bl true] := List.replicate_succ'
theorem ok_fit {f C CM : Addr} {fd : FuncData} (F : Fun K "_fits" "Machine._fits" sFit f fd) (T : TxtL mg) (TM : TxtM K mg CM) (mall : mg "all" = none) : FnOk P w K mg base CX0 1 f fd ["self"] (spFit C CM) := by
  refine F.ok scFit (fun vs H Q E h => ?_) (fun cdv A outer s H vs Q E hr h => ?_)
  · obtain ⟨N, p, dx, vS, vT, vE, m, rfl, _⟩ := h
    rfl
  · obtain ⟨N, p, dx, vS, vT, vE, m, rfl, hp, hS, hT, hE, k1, k4, n1, k⟩ := h
    obtain ⟨qs, rfl⟩ := hS.tupV
    obtain ⟨qt, rfl⟩ := hT.tupV
    obtain ⟨qe, rfl⟩ := hE.tupV
    obtain ⟨xs, hxs, lxs, exs⟩ := At.tupR hS
    obtain ⟨xt, hxt, lxt, ext⟩ := At.tupR hT
    obtain ⟨xe, hxe, lxe, exe⟩ := At.tupR hE
    refine ⟨_, pss_cons (ps_set (i := 1) scFit.nd rfl (.inr rfl) (pe_callB call_len_seq (by rfl) T.len PySem.boot_len (pa_cons (pe_fld (pv 0) rfl) pa_nil)))
      (C8.pss_cut (ps_if (PW.pt (pw_or (pt_not (pt_chain op_le op_le pe_int (pe_fld (pv 0) rfl) pe_int)) (pw_or (pt_cmpR op_ne (pe_callB call_len_seq (by rfl) T.len PySem.boot_len (pa_cons (pe_fld (pv 0) rfl) pa_nil)) (pv 1) (nomark _)) (pw_or1 (pt_cmpR op_ne (pe_callB call_len_seq (by rfl) T.len PySem.boot_len (pa_cons (pe_fld (pv 0) rfl) pa_nil)) (pe_fld (pv 0) rfl) (nomark _))))))
        (pss_one (ps_ret pe_bl))
        pss_nil)
      (pss_one (ps_ret (pe_callB (cr_all rfl) (by rfl) mall (by decide +kernel) (pa_cons (pe_lc (own := [("step", 2)]) (g := gName 2) (tt := tYes) rfl scFit.nd (pi_tup (pe_fld (pv 0) rfl)) (blkOk_by (N := ["self", "size", "step", "row"]) (sc := (defScope sFit)) (by decide +kernel)) (fun _ _ _ _ _ => (pg_name (i := 2) scFit.nd rfl (.inl rfl))) (fun _ _ _ _ _ => pts_nil) (fun _ _ _ _ _ => (pe_and (pe_cmpR op_eq (pe_callB (show CallR _ (.builtin "len") (rLenS K) from call_len_seqK) (by rfl) T.len PySem.boot_len (pa_cons (pv 2) pa_nil)) (pv 1) (nomark _)) (pe_one (pe_callB (show CallR _ _ (rAll K) from cr_all rfl) (by rfl) mall (by decide +kernel) (pa_cons (pe_lc (own := [("row", 3)]) (g := gName 3) (tt := tYes) rfl scFit.nd (pi_tupK (K := K) rfl (pv 2)) (blkOk_by (N := ["self", "size", "step", "row"]) (sc := outFit0) (by decide +kernel)) (fun _ _ _ _ _ => (pg_name (i := 3) scFit.nd rfl (.inl rfl))) (fun _ _ _ _ _ => pts_nil) (fun _ _ _ _ _ => (pe_cmpR op_eq (pe_callB (show CallR _ (.builtin "len") (rLenS K) from call_len_seqK) (by rfl) T.len PySem.boot_len (pa_cons (pv 3) pa_nil)) (pv 1) (nomark _)))) pa_nil)))))) pa_nil))))), ?_⟩
    refine ⟨_, rfl, p, CM, dx, _, _, rfl, hp, TM.cl, TM.nS, mf0_s, qs, xs, rfl, .inr (SqT.of hxs), ?_⟩
    rw [lxs]
    refine ⟨fun σ' H' => σ' = [some (.ref p), some (.int (m.n : Int)), none, none] ∧ H' = H, ?_, ?_⟩
    · refine ⟨_, rfl, p, CM, dx, _, _, rfl, hp, TM.cl, TM.nL, mf0_l, _, _, rfl, rfl, _, rfl, ?_⟩
      refine itT (decide_eq_true (by omega)) ?_
      refine ⟨_, _, rfl, rfl, _, rfl, ?_⟩
      refine itF (by rw [decide_eq_true (show (m.k : Int) ≤ 4 by omega)]; rfl) ?_
      refine ⟨_, rfl, p, CM, dx, _, _, rfl, hp, TM.cl, TM.nE, mf0_e, qe, xe, rfl, .inr (SqT.of hxe), _, rfl, rfl, _, rfl, ?_⟩
      rw [lxe]
      refine itF (by rw [decide_eq_true rfl]; rfl) ?_
      refine ⟨_, rfl, p, CM, dx, _, _, rfl, hp, TM.cl, TM.nT, mf0_t, qt, xt, rfl, .inr (SqT.of hxt), _, rfl, p, CM, dx, _, _, rfl, hp, TM.cl, TM.nL, mf0_l, rfl, _, rfl, ?_⟩
      rw [lxt]
      refine itF (by rw [decide_eq_true rfl]; rfl) ?_
      exact ⟨rfl, rfl⟩
    · rintro σ' H' ⟨rfl, rfl⟩
      refine ⟨_, rfl, p, CM, dx, _, _, rfl, hp, TM.cl, TM.nT, mf0_t, qt, rfl, ⟨_, SqT.of hxt⟩, fun D nD => ?_⟩
      refine lc_it (walk_tup (K := K) (a := qt) (xs := xt)) (fun i H1 => H1 D = some (.lst (trues i)) ∧ Same H' H1) ⟨upd_same, Same.upd nD⟩ (fun i H1 _ h => SqT.of (h.2 _ _ hxt)) ?_ ?_
      · rintro i x H1 H2 hi ⟨hD, s1⟩ ⟨rfl, hx⟩
        rw [lxt] at hi
        obtain ⟨x', hx', hd⟩ := ext i hi
        rw [hx'] at hx
        obtain rfl := Option.some.inj hx
        obtain ⟨ty, rfl⟩ := hd.tupV
        obtain ⟨ys, hys, lys, eys⟩ := At.tupR (hd.same s1)
        refine ⟨rfl, _, rfl, ty, ys, rfl, .inr (SqT.of hys), _, rfl, rfl, _, rfl, ?_⟩
        rw [lys]
        refine itT (decide_eq_true rfl) ?_
        refine ⟨_, rfl, ty, rfl, ⟨_, SqT.of hys⟩, fun G nG => ?_⟩
        have GD : D ≠ G := ne_of_none hD nG
        refine lc_it (walk_tup (K := K) (a := ty) (xs := ys)) (fun j H4 => H4 G = some (.lst (trues j)) ∧ Same H2 H4) ⟨upd_same, Same.upd nG⟩ (fun i H1 _ h => SqT.of (h.2 _ _ hys)) ?_ ?_
        · rintro j y H4 H5 hj ⟨hG, s4⟩ ⟨rfl, hy⟩
          rw [lys] at hj
          obtain ⟨y', hy', hd'⟩ := eys j hj
          rw [hy'] at hy
          obtain rfl := Option.some.inj hy
          obtain ⟨tz, rfl⟩ := hd'.tupV
          obtain ⟨zs, hzs, lzs, _⟩ := At.tupR (hd'.same s4)
          refine ⟨rfl, _, rfl, tz, zs, rfl, .inr (SqT.of hzs), _, rfl, rfl, ?_⟩
          rw [lzs]
          refine ⟨_, hG, by rw [trues_len]; exact small1000 (by omega), ?_, fun c o hc => ?_⟩
          · rw [upd_same, decide_eq_true rfl, trues_succ]
          · rw [upd_ne (ne_of_none hc nG)]
            exact s4 _ _ hc
        · rintro H4 ⟨hG, s4⟩
          rw [lys] at hG
          refine ⟨G, List.replicate m.n true, rfl, SqL.of (by rw [hG]; unfold trues; rw [List.map_replicate]), ?_⟩
          rw [show (List.replicate m.n true).all id = true from rAll_all fun b hb => (List.eq_of_mem_replicate hb)]
          refine ⟨_, s4 _ _ hD, by rw [trues_len]; exact small1000 (by omega), ?_, fun c o hc => ?_⟩
          · rw [upd_same, trues_succ]
          · rw [upd_ne (ne_of_none hc nD)]
            exact s4 _ _ (s1 _ _ hc)
      · rintro H1 ⟨hD, s1⟩
        rw [lxt] at hD
        refine ⟨D, List.replicate m.k true, rfl, SqL.of (by rw [hD]; unfold trues; rw [List.map_replicate]), ?_⟩
        rw [show (List.replicate m.k true).all id = true from rAll_all fun b hb => (List.eq_of_mem_replicate hb)]
        exact k H1 s1
end
end RX

set_option Elab.async false
set_option maxRecDepth 100000
namespace RX
open PySem L2 LX VA
open RQ (Hg Bt)
theorem tup_of {K : PySem.W.Frag} {C : Addr} {N : Addr → Prop} {H : Hp} {q : Addr} {ds : List Dat} {Q : VK} (h : At C N H (.ref q) (.sq ds)) (al : Alc N H) (k : ∀ (r : Addr) (H' : Hp), Same H H' → At C N H' (.ref r) (.tup ds) → Q (.ref r) H') : rTupO K [.ref q] H Q := by
  have nq := h.notin
  obtain ⟨xs, hq, l, e⟩ := h.sqE
  rcases hq with hq | hq
  · exact ⟨q, xs, rfl, .inr ⟨SqT.of hq, k q H (Same.refl H) (.tup hq nq l e)⟩⟩
  · exact ⟨q, xs, rfl, .inl ⟨SqL.of hq, fun r nr => k r _ (Same.upd nr) (At.newT al nr l e)⟩⟩
theorem tCB_tup {K : PySem.W.Frag} {C : Addr} {N : Addr → Prop} {σ : L2.St} {H : Hp} {te : TE} {q : Addr} {ds : List Dat} {Q : VK} (ht : ∀ Q : VK, Q (.ref q) H → te σ H Q) (h : At C N H (.ref q) (.sq ds)) (al : Alc N H) (k : ∀ (r : Addr) (H' : Hp), Same H H' → At C N H' (.ref r) (.tup ds) → Q (.ref r) H') : tCB (rTupO K) (tCons te tNil) σ H Q :=
  ht _ (tup_of h al k)
theorem or_walk {K : PySem.W.Frag} {σ : L2.St} {H : Hp} {R : It → Hp → Prop} {te : TE} {q : Addr} {xs : List V} (ht : ∀ Q : VK, Q (.ref q) H → te σ H Q) (hq : H q = some (.tup xs) ∨ H q = some (.lst xs))
    (h : ∀ J : It, Walk J xs.length (fun H' => H' q = H q) (YAt xs) → R J H) : iList K te σ H R ∨ iTup K te σ H R := by
  rcases hq with hq | hq
  · refine .inr (ht _ ⟨q, rfl, ⟨xs, SqT.of hq⟩, h _ (walk_tup.mono (fun H' e => SqT.of (e.trans hq)) fun _ _ _ _ _ _ y => y)⟩)
  · refine .inl (ht _ ⟨q, rfl, ⟨xs, SqL.of hq⟩, h _ (walk_list.mono (fun H' e => SqL.of (e.trans hq)) fun _ _ _ _ _ _ y => y)⟩)
theorem flat_one : ∀ {n : Nat}, (List.replicate n [V.non]).flatten = List.replicate n V.non
  | 0 => rfl
  | n + 1 => by
    rw [List.replicate_succ, List.flatten_cons, flat_one, List.replicate_succ]
    rfl
def sqS (m : Mc) : Dat := .sq (rng m.k fun x => .sq (rng m.n fun i => .sq (rng m.n fun j => .rat (m.t x i j))))
def sqR (n : Nat) (u : Nat → Rat) : Dat := .sq (rng n fun j => .rat (u j))
def spMi (C CM : Addr) : Sp := fun vs H Q _ => ∃ (N : Addr → Prop) (p dx : Addr) (vS vT vE : V) (m : Mc), vs = [.ref p, .int (m.k : Int), vS, vT, vE] ∧ H p = some (.ins CM dx []) ∧ At C (And1 N p) H vS (sqR m.n m.s) ∧ At C (And1 N p) H vT (sqS m) ∧ At C (And1 N p) H vE (sqR m.n m.e) ∧ 1 ≤ m.k ∧ m.k ≤ 4 ∧ m.n ≤ 1000 ∧ Alc N H ∧ ¬ N p ∧
  ∀ (ab : Addr) (H' : Hp), (∀ c o, H c = some o → c ≠ p → H' c = some o) → H ab = none → MachAt C CM (And1 N ab) H' p ab m → H' ab = some (.lst (List.replicate m.k .non)) → Q .non H'
section
variable {P : Program} {w : World} {K : PySem.W.Frag} {mg : Str → Option Value} {base : Heap}
theorem ok_mi {f fF C CM : Addr} {fd dF : FuncData} (F : Fun K "__init__" "Machine.__init__" sMi f fd) (TP : TxtP mg) (TM : TxtM K mg CM) (cFi : MetN P w K mg base CM "_fits" 1 ["self"] (spFit C CM) fF dF) :
    FnOk P w K mg base CX0 2 f fd ["self", "letters", "start", "steps", "end"] (spMi C CM) := by
  refine F.ok scMi (fun vs H Q E h => ?_) (fun cdv A outer s H vs Q E hr h => ?_)
  · obtain ⟨N, p, dx, vS, vT, vE, m, rfl, _⟩ := h
    rfl
  · obtain ⟨N, p, dx, vS, vT, vE, m, rfl, hp, hS, hT, hE, k1, k4, n1, al, np, k⟩ := h
    have hr1 : Room 1 _ := hr
    obtain ⟨qS, rfl⟩ := hS.sqV
    obtain ⟨qT, rfl⟩ := hT.sqV
    obtain ⟨qE, rfl⟩ := hE.sqV
    have pN : And1 N p p := .inr rfl
    have al' : Alc (And1 N p) H := al.and (by rw [hp]; intro z; cases z)
    refine ⟨_, pss_cons (ps_fld (pv 0) (pv 1) rfl)
      (pss_cons (ps_fld (pv 0) (pe_callTy (T := "tuple") call_tuple_of (by rfl) TP.tup (by decide +kernel) (pa_cons (pv 2) pa_nil)) rfl)
      (pss_cons (ps_fld (pv 0) (pe_callTy (T := "tuple") call_tuple_of (by rfl) TP.tup (by decide +kernel) (pa_cons (pe_lc (own := [("step", 5)]) (g := gName 5) (tt := tYes) rfl scMi.nd (XC.pi_or (pi_list (pv 3)) (pi_tup (pv 3))) (blkOk_by (N := ["self", "letters", "start", "steps", "end", "step", "row"]) (sc := (defScope sMi)) (by decide +kernel)) (fun _ _ _ _ _ => (pg_name (i := 5) scMi.nd rfl (.inl rfl))) (fun _ _ _ _ _ => pts_nil) (fun _ _ _ _ _ => (pe_callTy (T := "tuple") (show CallR _ (.type "tuple") (rTupO K) from call_tupK) (by rfl) TP.tup (by decide +kernel) (pa_cons (pe_lc (own := [("row", 6)]) (g := gName 6) (tt := tYes) rfl scMi.nd (XC.pi_or (pi_listK (K := K) rfl (pv 5)) (pi_tupK (K := K) rfl (pv 5))) (blkOk_by (N := ["self", "letters", "start", "steps", "end", "step", "row"]) (sc := outMi0) (by decide +kernel)) (fun _ _ _ _ _ => (pg_name (i := 6) scMi.nd rfl (.inl rfl))) (fun _ _ _ _ _ => pts_nil) (fun _ _ _ _ _ => (pe_callTy (T := "tuple") (show CallR _ (.type "tuple") (rTupO K) from call_tupK) (by rfl) TP.tup (by decide +kernel) (pa_cons (pv 6) pa_nil)))) pa_nil)))) pa_nil)) rfl)
      (pss_cons (ps_fld (pv 0) (pe_callTy (T := "tuple") call_tuple_of (by rfl) TP.tup (by decide +kernel) (pa_cons (pv 4) pa_nil)) rfl)
      (pss_cons (ps_if (pt_not (pt_val (pe_meth0 (pv 0) TM.cl cFi.m cFi.G hr1 cFi.b .nil pass0)))
        (pss_one ps_never)
        pss_nil)
      (pss_one (ps_fld (pv 0) (pe_op op_rep (pe_lst (pa_cons pe_non pa_nil)) (pv 1)) rfl)))))), ?_⟩
    -- letters
    refine ⟨_, rfl, _, rfl, p, CM, dx, _, rfl, hp, TM.cl, TM.nL, (by show 0 < 1000; decide), ?_⟩
    have hp1 : (upd H p (.ins CM dx (putF "letters" (.int (m.k : Int)) []))) p = some (.ins CM dx (putF "letters" (.int (m.k : Int)) [])) := upd_same
    have b1 : But p H (upd H p (.ins CM dx (putF "letters" (.int (m.k : Int)) []))) := But.upd p H _
    have kk1 : Keep (And1 N p) H (upd H p (.ins CM dx (putF "letters" (.int (m.k : Int)) []))) := Keep.upd pN
    generalize upd H p (.ins CM dx (putF "letters" (.int (m.k : Int)) [])) = H1 at *
    have hS := hS.keep kk1
    have hT := hT.keep kk1
    have hE := hE.keep kk1
    have al1 := al'.keep kk1
    -- start
    dsimp only [tSeq, sFld]
    refine tCB_tup (K := K) (te := tVar 2) (q := qS) ?_ hS al1 ?_
    · exact fun Q h => ⟨_, rfl, h⟩
    intro rS H2 s2 hS2
    refine ⟨_, rfl, p, CM, dx, _, rfl, s2 _ _ hp1, TM.cl, TM.nS, (by show 1 < 1000; decide), ?_⟩
    have kk2 : Keep (And1 N p) H1 (upd H2 p (.ins CM dx (putF "start" (.ref rS) (putF "letters" (.int (m.k : Int)) [])))) := (Same.keep s2).trans (Keep.upd pN)
    have kS2 : Keep (And1 N p) H2 (upd H2 p (.ins CM dx (putF "start" (.ref rS) (putF "letters" (.int (m.k : Int)) [])))) := Keep.upd pN
    have b2 : But p H (upd H2 p (.ins CM dx (putF "start" (.ref rS) (putF "letters" (.int (m.k : Int)) [])))) := (b1.trans (Same.but s2)).trans (But.upd p _ _)
    have hp2 : (upd H2 p (.ins CM dx (putF "start" (.ref rS) (putF "letters" (.int (m.k : Int)) [])))) p = some (.ins CM dx (putF "start" (.ref rS) (putF "letters" (.int (m.k : Int)) []))) := upd_same
    have hS := hS2.keep kS2
    generalize upd H2 p (.ins CM dx (putF "start" (.ref rS) (putF "letters" (.int (m.k : Int)) []))) = H3 at *
    have hT := hT.keep kk2
    have hE := hE.keep kk2
    have al3 := al1.keep kk2
    -- steps
    obtain ⟨xT, hxT, lT, eT⟩ := At.sqR hT
    refine or_walk (q := qT) (xs := xT) (fun Q h => ⟨_, rfl, h⟩) hxT fun J wJ D nD => ?_
    have qTe : ∀ {G : Hp}, Same H3 G → G qT = H3 qT := fun s => by
      rcases hxT with h | h <;> rw [h, s _ _ h]
    refine lc_it wJ (fun i G => Bld C Emp (And1 N p) H3 D (rng i fun x => ratT m.n m.n (m.t x)) G) (bld0 nD) (fun i G _ b => qTe b.k.same) ?_ ?_
    · rintro i x G1 G2 hi b ⟨rfl, hx⟩
      rw [lT] at hi
      obtain ⟨x', hx', hd⟩ := eT i hi
      rw [hx'] at hx
      obtain rfl := Option.some.inj hx
      obtain ⟨qx, rfl⟩ := hd.sqV
      have hd2 := b.old nD (fun _ z => z.elim) hd
      have alb := b.alc al3
      obtain ⟨xs2, hxs2, l2, e2⟩ := At.sqR hd2
      refine ⟨rfl, ?_⟩
      refine or_walk (q := qx) (xs := xs2) (fun Q h => ⟨_, rfl, h⟩) hxs2 fun J2 wJ2 D2 nD2 => ?_
      have qxe : ∀ {G : Hp}, Same G2 G → G qx = G2 qx := fun s => by
        rcases hxs2 with h | h <;> rw [h, s _ _ h]
      refine lc_it wJ2 (fun r G => Bld C Emp (And1 (And1 N p) D) G2 D2 (rng r fun r => ratR m.n (m.t i r)) G) (bld0 nD2) (fun i G _ b => qxe b.k.same) ?_ ?_
      · rintro r y G3 G4 hr b4 ⟨rfl, hy⟩
        rw [l2] at hr
        obtain ⟨y', hy', hd'⟩ := e2 r hr
        rw [hy'] at hy
        obtain rfl := Option.some.inj hy
        obtain ⟨qy, rfl⟩ := hd'.sqV
        have hd4 := b4.old nD2 (fun _ z => z.elim) hd'
        have al4 := b4.alc alb
        refine ⟨rfl, ?_⟩
        dsimp only [tYes]
        rw [if_pos rfl]
        refine tCB_tup (K := K) (te := tVar 6) (q := qy) ?_ hd4 al4 ?_
        · exact fun Q h => ⟨_, rfl, h⟩
        intro z G5 s5 hz
        obtain ⟨acc, h1, h2, h3⟩ := b4.step nD2 (Same.keep s5) (fun _ z => z.elim) id hz
        refine ⟨acc, h1, by rw [h2, rng_len]; exact small1000 (by omega), ?_⟩
        rw [rng_succ]
        exact h3
      · rintro G3 b4
        rw [l2] at b4
        have nD2' := alb.fresh nD2
        obtain ⟨ys, hys, ly, ey⟩ := (b4.done nD2').lstE
        refine ⟨D2, ys, rfl, .inl ⟨SqL.of hys, fun r2 nr2 => ?_⟩⟩
        have hz := At.newT (alb.keep b4.k) nr2 ly ey
        obtain ⟨acc, h1, h2, h3⟩ := b.step nD (b4.k.trans (Keep.new nr2)) (fun _ z => z.elim) id hz
        refine ⟨acc, h1, by rw [h2, rng_len]; exact small1000 (by omega), ?_⟩
        rw [rng_succ]
        exact h3
    · rintro G1 b
      rw [lT] at b
      have nD' := al3.fresh nD
      obtain ⟨ys, hys, ly, ey⟩ := (b.done nD').lstE
      refine ⟨D, ys, rfl, .inl ⟨SqL.of hys, fun rT nrT => ?_⟩⟩
      have hT4 := At.newT (al3.keep b.k) nrT ly ey
      have s4 := b.k.same.trans (Same.upd (o := .tup ys) nrT)
      generalize upd G1 rT (.tup ys) = H4 at *
      have kS4 : Keep (And1 N p) H3 H4 := Same.keep s4
      have hS := hS.keep kS4
      have hE := hE.keep kS4
      have al4 := al3.keep kS4
      refine ⟨_, rfl, p, CM, dx, _, rfl, s4 _ _ hp2, TM.cl, TM.nT, (by show 2 < 1000; decide), ?_⟩
      have kk5 : Keep (And1 N p) H4 (upd H4 p (.ins CM dx (putF "steps" (.ref rT) (putF "start" (.ref rS) (putF "letters" (.int (m.k : Int)) []))))) := Keep.upd pN
      have b5 : But p H (upd H4 p (.ins CM dx (putF "steps" (.ref rT) (putF "start" (.ref rS) (putF "letters" (.int (m.k : Int)) []))))) := (b2.trans (Same.but s4)).trans (But.upd p _ _)
      have hp5 : (upd H4 p (.ins CM dx (putF "steps" (.ref rT) (putF "start" (.ref rS) (putF "letters" (.int (m.k : Int)) []))))) p = some (.ins CM dx (putF "steps" (.ref rT) (putF "start" (.ref rS) (putF "letters" (.int (m.k : Int)) [])))) := upd_same
      generalize upd H4 p (.ins CM dx (putF "steps" (.ref rT) (putF "start" (.ref rS) (putF "letters" (.int (m.k : Int)) [])))) = H5 at *
      have hS := hS.keep kk5
      have hT := hT4.keep kk5
      have hE := hE.keep kk5
      have al5 := al4.keep kk5
      -- end
      refine tCB_tup (K := K) (te := tVar 4) (q := qE) ?_ hE al5 ?_
      · exact fun Q h => ⟨_, rfl, h⟩
      intro rE H6 s6 hE6
      refine ⟨_, rfl, p, CM, dx, _, rfl, s6 _ _ hp5, TM.cl, TM.nE, (by show 3 < 1000; decide), ?_⟩
      have kk7 : Keep (And1 N p) H6 (upd H6 p (.ins CM dx (mf0 (m.k : Int) (.ref rS) (.ref rT) (.ref rE)))) := Keep.upd pN
      have b7 : But p H (upd H6 p (.ins CM dx (mf0 (m.k : Int) (.ref rS) (.ref rT) (.ref rE)))) := (b5.trans (Same.but s6)).trans (But.upd p _ _)
      have hp7 : (upd H6 p (.ins CM dx (mf0 (m.k : Int) (.ref rS) (.ref rT) (.ref rE)))) p = some (.ins CM dx (mf0 (m.k : Int) (.ref rS) (.ref rT) (.ref rE))) := upd_same
      show (tIfS _ _ _) _ _ (upd H6 p (.ins CM dx (mf0 (m.k : Int) (.ref rS) (.ref rT) (.ref rE))))
      generalize upd H6 p (.ins CM dx (mf0 (m.k : Int) (.ref rS) (.ref rT) (.ref rE))) = H7 at *
      have hS := (hS.same s6).keep kk7
      have hT := (hT.same s6).keep kk7
      have hE := hE6.keep kk7
      have al7 := (al5.keep (Same.keep (N := Emp) s6)).keep kk7
      refine ⟨_, rfl, p, dx, _, rfl, hp7, mf0_no (by decide +kernel) (by decide +kernel) (by decide +kernel) (by decide +kernel), And1 N p, p, dx, _, _, _, m, rfl, hp7, hS, hT, hE, k1, k4, n1, fun H8 s8 => ⟨true, rfl, ?_⟩⟩
      refine iteF ?_
      refine ⟨(by show 1 ≤ sizeLine; decide), fun L nL => ?_⟩
      have sL : Same H7 (upd H8 L (.lst [.non])) := s8.trans (Same.upd nL)
      refine ⟨_, rfl, L, _, _, rfl, rfl, upd_same, by omega, by omega, ?_, fun ab nab => ?_⟩
      · show 1 * _ ≤ sizeLine
        rw [Nat.one_mul, Int.toNat_natCast]
        exact Nat.le_of_lt (small1000 (by omega))
      generalize upd H8 L (.lst [.non]) = H9 at *
      have hp9 := sL _ _ hp7
      have pab : p ≠ ab := ne_of_none hp9 nab
      have e0 : (List.replicate (((m.k : Nat) : Int).toNat) [V.non]).flatten = List.replicate m.k V.non := by
        rw [Int.toNat_natCast]
        exact flat_one
      have b9 : But p H H9 := b7.trans (Same.but sL)
      have nabH : H ab = none := by
        cases q : H ab with
        | none => rfl
        | some o =>
          have := b9 ab o q (Ne.symm pab)
          rw [nab] at this
          cases this
      have up : ∀ {v : V} {d : Dat}, At C (And1 N p) H7 v d → At C (And1 N ab) (upd (upd H9 ab (.lst (List.replicate (((m.k : Nat) : Int).toNat) [V.non]).flatten)) p (.ins CM dx (mf (m.k : Int) (.ref rS) (.ref rT) (.ref rE) ab))) v d := fun {v d} h => by
        have h1 := (h.same sL).and nab
        have h2 := (h1.keep (Keep.upd (o := .lst (List.replicate (((m.k : Nat) : Int).toNat) [V.non]).flatten) (.inr rfl))).keep (Keep.upd (D := p) (o := .ins CM dx (mf (m.k : Int) (.ref rS) (.ref rT) (.ref rE) ab)) (.inl (.inr rfl)))
        exact h2.less fun b z => z.imp .inl id
      refine ⟨_, rfl, p, CM, dx, _, rfl, by rw [upd_ne pab]; exact hp9, TM.cl, TM.nA, (by show 4 < 1000; decide), ?_⟩
      refine k ab (upd (upd H9 ab (.lst (List.replicate (((m.k : Nat) : Int).toNat) [V.non]).flatten)) p (.ins CM dx (mf (m.k : Int) (.ref rS) (.ref rT) (.ref rE) ab))) (fun c o hc ne => ?_) nabH ⟨⟨dx, _, _, _, upd_same, up hS, up hT, up hE⟩, fun z => ?_, .inr rfl, ⟨List.replicate m.k .non, by rw [upd_ne (Ne.symm pab), upd_same, e0], List.length_replicate, fun x hx => .inl ?_⟩, k1, k4, n1⟩ (by rw [upd_ne (Ne.symm pab), upd_same, e0])
      · rw [upd_ne ne, upd_ne (ne_of_none hc nabH)]
        exact b9 _ _ hc ne
      · rcases z with z | z
        · exact np z
        · exact pab z
      · rw [List.getElem?_replicate, if_pos hx]
end
end RX

set_option Elab.async false
set_option maxRecDepth 100000
/-! sums, determinants over the numbers: what Cramer's rule wants -/
namespace DT
def sm : Nat → (Nat → Rat) → Rat
  | 0, _ => 0
  | n + 1, f => sm n f + f n
theorem sm_congr {f g : Nat → Rat} : ∀ {n : Nat}, (∀ j, j < n → f j = g j) → sm n f = sm n g
  | 0, _ => rfl
  | n + 1, h => by
    unfold sm
    rw [sm_congr (fun j hj => h j (by omega)), h n (by omega)]
theorem sm_zero {f : Nat → Rat} : ∀ {n : Nat}, (∀ j, j < n → f j = 0) → sm n f = 0
  | 0, _ => rfl
  | n + 1, h => by
    unfold sm
    rw [sm_zero (fun j hj => h j (by omega)), h n (by omega)]
    grind
theorem sm_add {f g : Nat → Rat} : ∀ {n : Nat}, sm n (fun j => f j + g j) = sm n f + sm n g
  | 0 => by unfold sm; grind
  | n + 1 => by
    unfold sm
    rw [sm_add]
    grind
theorem sm_mul {c : Rat} {f : Nat → Rat} : ∀ {n : Nat}, sm n (fun j => c * f j) = c * sm n f
  | 0 => by unfold sm; grind
  | n + 1 => by
    unfold sm
    rw [sm_mul]
    grind
theorem sm_one {f : Nat → Rat} {k : Nat} : ∀ {n : Nat}, k < n → (∀ j, j < n → j ≠ k → f j = 0) → sm n f = f k
  | 0, h, _ => absurd h (by omega)
  | n + 1, h, z => by
    unfold sm
    by_cases e : k = n
    · subst e
      rw [sm_zero fun j hj => z j (by omega) (by omega)]
      grind
    · rw [sm_one (n := n) (by omega) fun j hj ne => z j (by omega) ne, z n (by omega) (by omega)]
      grind
theorem sm_swap {f : Nat → Nat → Rat} {m : Nat} : ∀ {n : Nat}, sm n (fun i => sm m (f i)) = sm m (fun j => sm n (fun i => f i j))
  | 0 => by
    show 0 = _
    exact (sm_zero fun j _ => rfl).symm
  | n + 1 => by
    show sm n (fun i => sm m (f i)) + sm m (f n) = _
    rw [sm_swap, ← sm_add]
    rfl
/-- a sum that takes itself away -/
theorem sm_anti {f : Nat → Nat → Rat} (h : ∀ j k, j ≤ k → f j k + f (k + 1) j = 0) : ∀ {m : Nat}, sm (m + 1) (fun j => sm m (f j)) = 0
  | 0 => by
    show sm 1 (fun j => 0) = 0
    exact sm_zero fun _ _ => rfl
  | m + 1 => by
    have i := sm_anti h (m := m)
    show sm (m + 1) (fun j => sm m (f j) + f j m) + sm (m + 1) (f (m + 1)) = 0
    rw [sm_add, i]
    have e : sm (m + 1) (fun j => f j m + f (m + 1) j) = 0 := sm_zero fun j hj => h j m (by omega)
    rw [sm_add] at e
    grind
def sg : Nat → Rat
  | 0 => 1
  | n + 1 => - sg n
def skp (j k : Nat) : Nat := if k < j then k else k + 1
def det : Nat → (Nat → Nat → Rat) → Rat
  | 0, _ => 1
  | n + 1, A => sm (n + 1) (fun j => sg (n + j) * A n j * det n (fun i k => A i (skp j k)))
theorem skp_lt {j k n : Nat} (h : k < n) : skp j k < n + 1 := by unfold skp; split <;> omega
theorem det_congr : ∀ {n : Nat} {A B : Nat → Nat → Rat}, (∀ i, i < n → ∀ j, j < n → A i j = B i j) → det n A = det n B
  | 0, _, _, _ => rfl
  | n + 1, A, B, h => by
    unfold det
    refine sm_congr fun j hj => ?_
    rw [h n (by omega) j hj, det_congr (n := n) fun i hi k hk => h i (by omega) _ (skp_lt hk)]
def row (A : Nat → Nat → Rat) (i : Nat) (u : Nat → Rat) : Nat → Nat → Rat := fun r => if r = i then u else A r
theorem row_at {A : Nat → Nat → Rat} {i : Nat} {u : Nat → Rat} : row A i u i = u := if_pos rfl
theorem row_ne {A : Nat → Nat → Rat} {i r : Nat} {u : Nat → Rat} (h : r ≠ i) : row A i u r = A r := if_neg h
theorem row_self {A : Nat → Nat → Rat} {i : Nat} : row A i (A i) = A := by
  funext r
  by_cases h : r = i
  · rw [h, row_at]
  · rw [row_ne h]
theorem row_row {A : Nat → Nat → Rat} {i : Nat} {u v : Nat → Rat} : row (row A i u) i v = row A i v := by
  funext r
  by_cases h : r = i
  · rw [h, row_at, row_at]
  · rw [row_ne h, row_ne h, row_ne h]
theorem row_comm {A : Nat → Nat → Rat} {i j : Nat} {u v : Nat → Rat} (h : i ≠ j) : row (row A i u) j v = row (row A j v) i u := by
  funext r
  by_cases h1 : r = j
  · subst h1
    rw [row_at, row_ne (fun z => h z.symm), row_at]
  · rw [row_ne h1]
    by_cases h2 : r = i
    · rw [h2, row_at, row_at]
    · rw [row_ne h2, row_ne h2, row_ne h1]
theorem row_min {A : Nat → Nat → Rat} {i j : Nat} {u : Nat → Rat} : (fun r k => row A i u r (skp j k)) = row (fun r k => A r (skp j k)) i (fun k => u (skp j k)) := by
  funext r k
  by_cases h : r = i
  · rw [h, row_at, row_at]
  · rw [row_ne h, row_ne h]
theorem det_lin {a b : Rat} : ∀ {n : Nat} {A : Nat → Nat → Rat} {i : Nat} {u v : Nat → Rat}, i < n → det n (row A i (fun x => a * u x + b * v x)) = a * det n (row A i u) + b * det n (row A i v)
  | 0, _, _, _, _, h => absurd h (by omega)
  | n + 1, A, i, u, v, h => by
    unfold det
    rw [← sm_mul, ← sm_mul, ← sm_add]
    refine sm_congr fun j hj => ?_
    by_cases e : i = n
    · subst e
      rw [row_at, row_at, row_at]
      rw [det_congr (B := fun r k => A r (skp j k)) fun r hr k hk => by rw [row_ne (by omega)], det_congr (A := fun r k => row A i u r (skp j k)) (B := fun r k => A r (skp j k)) fun r hr k hk => by rw [row_ne (by omega)], det_congr (A := fun r k => row A i v r (skp j k)) (B := fun r k => A r (skp j k)) fun r hr k hk => by rw [row_ne (by omega)]]
      grind
    · rw [row_ne (fun z => e z.symm), row_ne (fun z => e z.symm), row_ne (fun z => e z.symm), row_min, row_min, row_min, det_lin (i := i) (by omega)]
      grind
theorem skp2 {j k x : Nat} (h : j ≤ k) : skp j (skp k x) = skp (k + 1) (skp j x) := by
  unfold skp
  repeat' split
  all_goals omega
theorem det_adj : ∀ {n : Nat} {A : Nat → Nat → Rat} {i : Nat}, i + 1 < n → A i = A (i + 1) → det n A = 0
  | 0, _, _, h, _ => absurd h (by omega)
  | 1, _, _, h, _ => absurd h (by omega)
  | m + 2, A, i, h, e => by
    by_cases q : i = m
    · subst q
      have : det (i + 2) A = sm (i + 1 + 1) (fun j => sm (i + 1) (fun k => (sg (i + 1 + j) * A (i + 1) j) * (sg (i + k) * A i (skp j k) * det i (fun r x => A r (skp j (skp k x)))))) := by
        show sm (i + 1 + 1) _ = _
        refine sm_congr fun j hj => ?_
        rw [sm_mul]
        rfl
      rw [this]
      refine sm_anti fun j k l => ?_
      have d : (fun r x => A r (skp j (skp k x))) = (fun r x => A r (skp (k + 1) (skp j x))) := by funext r x; rw [skp2 l]
      have s1 : skp j k = k + 1 := by unfold skp; rw [if_neg (by omega)]
      have s2 : skp (k + 1) j = j := by unfold skp; rw [if_pos (by omega)]
      rw [d, s1, s2, e]
      have g1 : sg (i + 1 + j) = - sg (i + j) := by rw [show i + 1 + j = (i + j) + 1 by omega]; rfl
      have g2 : sg (i + 1 + (k + 1)) = sg (i + k) := by rw [show i + 1 + (k + 1) = (i + k) + 1 + 1 by omega]; show - - sg (i + k) = _; grind
      rw [g1, g2]
      grind
    · show sm (m + 2) _ = 0
      refine sm_zero fun j hj => ?_
      rw [det_adj (n := m + 1) (i := i) (by omega) (by funext k; rw [e])]
      grind
theorem det_swap {n p : Nat} {A : Nat → Nat → Rat} {u v : Nat → Rat} (h : p + 1 < n) : det n (row (row A p u) (p + 1) v) = - det n (row (row A p v) (p + 1) u) := by
  have pn : p ≠ p + 1 := by omega
  have z : ∀ w, det n (row (row A p w) (p + 1) w) = 0 := fun w => det_adj h (by rw [row_ne (by omega), row_at, row_at])
  have e := z (fun x => 1 * u x + 1 * v x)
  rw [det_lin h, row_comm (v := u) pn, row_comm (v := v) pn, det_lin (i := p) (by omega), det_lin (i := p) (by omega)] at e
  rw [row_comm (u := u) (v := u) pn.symm, row_comm (u := u) (v := v) pn.symm, row_comm (u := v) (v := u) pn.symm, row_comm (u := v) (v := v) pn.symm] at e
  have z1 := z u
  have z2 := z v
  grind
theorem det_eq {n : Nat} : ∀ {d : Nat} {A : Nat → Nat → Rat} {i : Nat}, i + d + 1 < n → A i = A (i + d + 1) → det n A = 0
  | 0, A, i, h, e => det_adj h e
  | d + 1, A, i, h, e => by
    have s := det_swap (n := n) (p := i + d + 1) (A := A) (u := A (i + d + 1)) (v := A (i + d + 1 + 1)) h
    rw [row_self, row_self] at s
    rw [s, det_eq (d := d) (i := i) (by omega)]
    · grind
    · rw [row_ne (by omega), row_ne (by omega), row_ne (by omega), row_at]
      exact e
theorem det_two {n i j : Nat} {A : Nat → Nat → Rat} (hi : i < n) (hj : j < n) (ne : i ≠ j) (e : A i = A j) : det n A = 0 := by
  rcases Nat.lt_or_gt_of_ne ne with h | h
  · exact det_eq (d := j - i - 1) (i := i) (by omega) (by rw [show i + (j - i - 1) + 1 = j by omega]; exact e)
  · exact det_eq (d := i - j - 1) (i := j) (by omega) (by rw [show j + (i - j - 1) + 1 = i by omega]; exact e.symm)
theorem det_sum {n i : Nat} {A : Nat → Nat → Rat} {c : Nat → Rat} {B : Nat → Nat → Rat} (hi : i < n) : ∀ {m : Nat}, det n (row A i (fun x => sm m (fun l => c l * B l x))) = sm m (fun l => c l * det n (row A i (B l)))
  | 0 => by
    have := det_lin (a := 0) (b := 0) (n := n) (A := A) (i := i) (u := fun _ => 0) (v := fun _ => 0) hi
    show det n (row A i (fun x => 0)) = 0
    have e : (fun x : Nat => (0 : Rat) * 0 + 0 * 0) = fun _ => 0 := by funext x; grind
    rw [e] at this
    grind
  | m + 1 => by
    show det n (row A i (fun x => sm m (fun l => c l * B l x) + c m * B m x)) = sm m (fun l => c l * det n (row A i (B l))) + c m * det n (row A i (B m))
    have := det_lin (a := 1) (b := c m) (n := n) (A := A) (i := i) (u := fun x => sm m (fun l => c l * B l x)) (v := B m) hi
    have e : (fun x => 1 * sm m (fun l => c l * B l x) + c m * B m x) = fun x => sm m (fun l => c l * B l x) + c m * B m x := by funext x; grind
    rw [e] at this
    rw [this, det_sum hi]
    grind
/-- Cramer -/
theorem cramer {n j : Nat} {A : Nat → Nat → Rat} {c : Nat → Rat} (hj : j < n) : det n (row A j (fun x => sm n (fun l => c l * A l x))) = c j * det n A := by
  rw [det_sum hj, sm_one (k := j) hj fun l hl ne => ?_, row_self]
  rw [det_two (i := l) (j := j) hl hj ne (by rw [row_ne ne, row_at])]
  grind
/-- one more row that is 0 at the earlier places but for sums of the rows above -/
theorem det_last {k : Nat} {A : Nat → Nat → Rat} {d : Nat → Rat} (h : ∀ j, j < k → A k j - sm k (fun l => d l * A l j) = 0) : det (k + 1) A = (A k k - sm k (fun l => d l * A l k)) * det k A := by
  let L : Nat → Rat := fun x => A k x - sm k (fun l => d l * A l x)
  have e1 : det (k + 1) (row A k L) = det (k + 1) A := by
    have e := det_lin (a := 1) (b := -1) (n := k + 1) (A := A) (i := k) (u := A k) (v := fun x => sm k (fun l => d l * A l x)) (by omega)
    have e2 : (fun x => 1 * A k x + -1 * sm k (fun l => d l * A l x)) = L := by funext x; show _ = A k x - _; grind
    rw [e2, row_self] at e
    rw [e, det_sum (by omega), sm_zero fun l hl => ?_]
    · grind
    · rw [det_two (i := l) (j := k) (by omega) (by omega) (by omega) (by rw [row_ne (by omega), row_at])]
      grind
  rw [← e1]
  have sgk : ∀ m, sg (m + m) = 1 := fun m => by
    induction m with
    | zero => rfl
    | succ m ih => rw [show m + 1 + (m + 1) = m + m + 1 + 1 by omega]; show - - sg (m + m) = 1; rw [ih]; grind
  show sm (k + 1) _ = _
  rw [sm_one (k := k) (by omega) fun j hj ne => ?_, row_at, sgk]
  · rw [det_congr (B := A) fun i hi x hx => ?_]
    · show 1 * L k * det k A = L k * det k A
      grind
    · rw [row_ne (by omega)]
      unfold skp
      rw [if_pos hx]
  · rw [row_at]
    rw [show L j = 0 from h j (by omega)]
    grind
/-! ### whole numbers up to a bound -/
def IB (B : Nat) (q : Rat) : Prop := ∃ z : Int, q = (z : Rat) ∧ z.natAbs ≤ B
theorem IB.up {A B : Nat} {q : Rat} (h : IB A q) (l : A ≤ B) : IB B q := let ⟨z, e, b⟩ := h; ⟨z, e, Nat.le_trans b l⟩
theorem IB.zero (B : Nat) : IB B 0 := ⟨0, rfl, Nat.zero_le _⟩
theorem IB.add {A B : Nat} {p q : Rat} (h : IB A p) (k : IB B q) : IB (A + B) (p + q) := by
  obtain ⟨x, rfl, a⟩ := h
  obtain ⟨y, rfl, b⟩ := k
  exact ⟨x + y, by rw [Rat.intCast_add], by have := Int.natAbs_add_le x y; omega⟩
theorem IB.neg {A : Nat} {p : Rat} (h : IB A p) : IB A (- p) := by
  obtain ⟨x, rfl, a⟩ := h
  exact ⟨-x, by rw [Rat.intCast_neg], by rw [Int.natAbs_neg]; exact a⟩
theorem IB.mul {A B : Nat} {p q : Rat} (h : IB A p) (k : IB B q) : IB (A * B) (p * q) := by
  obtain ⟨x, rfl, a⟩ := h
  obtain ⟨y, rfl, b⟩ := k
  exact ⟨x * y, by rw [Rat.intCast_mul], by rw [Int.natAbs_mul]; exact Nat.mul_le_mul a b⟩
theorem IB.sg {A : Nat} {p : Rat} (h : IB A p) : ∀ m, IB A (sg m * p)
  | 0 => by
    have : DT.sg 0 * p = p := by show 1 * p = p; grind
    rw [this]; exact h
  | m + 1 => by
    have : DT.sg (m + 1) * p = - (DT.sg m * p) := by show - DT.sg m * p = _; grind
    rw [this]
    exact (h.sg m).neg
theorem IB.sm {B : Nat} {f : Nat → Rat} : ∀ {n : Nat}, (∀ j, j < n → IB B (f j)) → IB (n * B) (DT.sm n f)
  | 0, _ => IB.zero _
  | n + 1, h => by
    have := (IB.sm (n := n) fun j hj => h j (by omega)).add (h n (by omega))
    rw [Nat.succ_mul]
    exact this
theorem IB.det {B : Nat} : ∀ {n : Nat} {A : Nat → Nat → Rat}, (∀ i, i < n → ∀ j, j < n → IB B (A i j)) → IB ((n * B) ^ n) (det n A)
  | 0, _, _ => ⟨1, rfl, Nat.le_refl _⟩
  | n + 1, A, h => by
    have : IB ((n + 1) * (B * (n * B) ^ n)) (DT.det (n + 1) A) := IB.sm fun j hj => ((h n (by omega) j hj).sg _).mul (IB.det (n := n) fun i hi k hk => h i (by omega) _ (skp_lt hk))
    refine this.up ?_
    rw [Nat.pow_succ, Nat.mul_comm _ ((n + 1) * B), Nat.mul_assoc (n + 1)]
    exact Nat.mul_le_mul_left _ (Nat.mul_le_mul_left _ (Nat.pow_le_pow_left (Nat.mul_le_mul_right _ (by omega)) n))
end DT

set_option Elab.async false
set_option maxRecDepth 100000
/-! spaces of whole rows, kept in reduced form but for their factors: members, sizes, one row more -/
namespace DT
/-- what is left of u when the kept rows are taken away -/
def rs (k : Nat) (p : Nat → Nat) (K : Nat → Nat → Int) (u : Nat → Rat) (x : Nat) : Rat := u x - sm k (fun t => u (p t) / (K t (p t) : Rat) * (K t x : Rat))
def Spn (n k : Nat) (a : Nat → Nat → Rat) (u : Nat → Rat) : Prop := ∃ c : Nat → Rat, ∀ x, x < n → u x = sm k (fun l => c l * a l x)
theorem sm_sub {f g : Nat → Rat} {n : Nat} : sm n (fun j => f j - g j) = sm n f - sm n g := by
  have e : (fun j => f j - g j) = fun j => f j + (-1) * g j := by funext j; grind
  rw [e, sm_add, sm_mul]
  grind
theorem spn_in {n k : Nat} {a : Nat → Nat → Rat} {i : Nat} (h : i < k) : Spn n k a (a i) := ⟨fun l => if l = i then 1 else 0, fun x _ => by
  show a i x = sm k (fun l => (if l = i then 1 else 0) * a l x)
  rw [sm_one (k := i) h fun j _ ne => by rw [if_neg ne, Rat.zero_mul]]
  rw [if_pos rfl, Rat.one_mul]⟩
theorem spn_lin {n k m : Nat} {a : Nat → Nat → Rat} {b : Nat → Nat → Rat} {c : Nat → Rat} (h : ∀ t, t < m → Spn n k a (b t)) : Spn n k a (fun x => sm m (fun t => c t * b t x)) := by
  have g : ∀ t, ∃ d : Nat → Rat, t < m → ∀ x, x < n → b t x = sm k (fun l => d l * a l x) := fun t => by
    by_cases ht : t < m
    · obtain ⟨d, e⟩ := h t ht
      exact ⟨d, fun _ => e⟩
    · exact ⟨fun _ => 0, fun z => absurd z ht⟩
  refine ⟨fun l => sm m (fun t => c t * (g t).choose l), fun x hx => ?_⟩
  have e1 : sm m (fun t => c t * b t x) = sm m (fun t => sm k (fun l => c t * (g t).choose l * a l x)) := sm_congr fun t ht => by
    rw [(g t).choose_spec ht x hx, ← sm_mul]
    exact sm_congr fun l _ => by grind
  show sm m (fun t => c t * b t x) = _
  rw [e1, sm_swap]
  refine sm_congr fun l _ => ?_
  have e2 : (fun t => c t * (g t).choose l * a l x) = fun t => a l x * (c t * (g t).choose l) := by funext t; grind
  rw [e2, sm_mul, Rat.mul_comm]
theorem spn_add {n k : Nat} {a : Nat → Nat → Rat} {u v : Nat → Rat} {r s : Rat} (h : Spn n k a u) (g : Spn n k a v) : Spn n k a (fun x => r * u x + s * v x) := by
  obtain ⟨c, hc⟩ := h
  obtain ⟨d, hd⟩ := g
  refine ⟨fun l => r * c l + s * d l, fun x hx => ?_⟩
  show r * u x + s * v x = _
  rw [hc x hx, hd x hx, ← sm_mul, ← sm_mul, ← sm_add]
  exact sm_congr fun l _ => by grind
theorem spn_congr {n k : Nat} {a : Nat → Nat → Rat} {u v : Nat → Rat} (h : Spn n k a u) (e : ∀ x, x < n → v x = u x) : Spn n k a v := by
  obtain ⟨c, hc⟩ := h
  exact ⟨c, fun x hx => by rw [e x hx, hc x hx]⟩
theorem spn_more {n k : Nat} {a : Nat → Nat → Rat} {u : Nat → Rat} (h : Spn n k a u) : Spn n (k + 1) a u := by
  obtain ⟨c, hc⟩ := h
  refine ⟨fun l => if l < k then c l else 0, fun x hx => ?_⟩
  show u x = sm k (fun l => (if l < k then c l else 0) * a l x) + (if k < k then c k else 0) * a k x
  rw [hc x hx, if_neg (by omega), sm_congr (f := fun l => (if l < k then c l else 0) * a l x) (g := fun l => c l * a l x) fun l hl => by rw [if_pos hl], Rat.zero_mul, Rat.add_zero]
theorem spn_ext {n k : Nat} {a b : Nat → Nat → Rat} {u : Nat → Rat} (h : Spn n k a u) (e : ∀ l, l < k → ∀ x, x < n → a l x = b l x) : Spn n k b u := by
  obtain ⟨c, hc⟩ := h
  exact ⟨c, fun x hx => by rw [hc x hx]; exact sm_congr fun l hl => by rw [e l hl x hx]⟩
/-- a span within a span -/
theorem spn_trans {n k m : Nat} {a b : Nat → Nat → Rat} {u : Nat → Rat} (h : Spn n m b u) (g : ∀ t, t < m → Spn n k a (b t)) : Spn n k a u := by
  obtain ⟨c, hc⟩ := h
  exact spn_congr (spn_lin (c := c) g) hc
/-- linear: all of it in the kept rows -/
def InB (n k : Nat) (p : Nat → Nat) (K : Nat → Nat → Int) (u : Nat → Rat) : Prop := ∀ x, x < n → rs k p K u x = 0
theorem inb_lin {n k m : Nat} {p : Nat → Nat} {K : Nat → Nat → Int} {b : Nat → Nat → Rat} {c : Nat → Rat} (h : ∀ t, t < m → InB n k p K (b t)) : InB n k p K (fun x => sm m (fun t => c t * b t x)) := fun x hx => by
  show sm m (fun t => c t * b t x) - sm k (fun s => sm m (fun t => c t * b t (p s)) / (K s (p s) : Rat) * (K s x : Rat)) = 0
  have e1 : sm k (fun s => sm m (fun t => c t * b t (p s)) / (K s (p s) : Rat) * (K s x : Rat)) = sm k (fun s => sm m (fun t => c t * (b t (p s) / (K s (p s) : Rat) * (K s x : Rat)))) := sm_congr fun s _ => by
    have e2 : sm m (fun t => c t * (b t (p s) / (K s (p s) : Rat) * (K s x : Rat))) = (1 / (K s (p s) : Rat) * (K s x : Rat)) * sm m (fun t => c t * b t (p s)) := by
      rw [← sm_mul]
      exact sm_congr fun t _ => by
        rw [Rat.div_def, Rat.div_def]
        grind
    rw [e2, Rat.div_def, Rat.div_def]
    grind
  rw [e1, sm_swap, ← sm_sub]
  refine sm_zero fun t ht => ?_
  have := h t ht x hx
  unfold rs at this
  rw [sm_mul]
  grind
theorem inb_congr {n k : Nat} {p : Nat → Nat} {K : Nat → Nat → Int} {u v : Nat → Rat} (hp : ∀ t, t < k → p t < n) (h : InB n k p K u) (e : ∀ x, x < n → v x = u x) : InB n k p K v := fun x hx => by
  have := h x hx
  unfold rs at *
  rw [e x hx, sm_congr (g := fun t => u (p t) / (K t (p t) : Rat) * (K t x : Rat)) fun t ht => by rw [e _ (hp t ht)]]
  exact this
structure Bas (n k B : Nat) (p : Nat → Nat) (K a : Nat → Nat → Int) : Prop where
  lt : ∀ i, i < k → p i < n
  pos : ∀ i, i < k → 0 < K i (p i)
  off : ∀ i, i < k → ∀ j, j < k → i ≠ j → K i (p j) = 0
  zb : ∀ i, i < k → ∀ x, x < p i → K i x = 0
  pr : ∀ i, i < k → ∀ d : Int, (∀ x, x < n → d ∣ K i x) → d ∣ 1
  ka : ∀ i, i < k → Spn n k (fun l x => (a l x : Rat)) (fun x => (K i x : Rat))
  ak : ∀ i, i < k → InB n k p K (fun x => (a i x : Rat))
  ab : ∀ i, i < k → ∀ x, x < n → (a i x).natAbs ≤ B
  dt : det k (fun i j => (a i (p j) : Rat)) ≠ 0
theorem bas0 (n B : Nat) (p : Nat → Nat) (K a : Nat → Nat → Int) : Bas n 0 B p K a := by
  constructor
  all_goals try (intro i hi; exact absurd hi (by omega))
  show (1 : Rat) ≠ 0
  decide
theorem rg1 (c k a : Rat) : c * k * a = k * (c * a) := by grind
theorem rg11 (d x i : Rat) : d * x * i = d * i * x := by grind
theorem rg2 (c k d a : Rat) : c * k * d * a = d * k * (c * a) := by grind
theorem rg3 {k i d x : Rat} (h : k * i = 1) : d * x = k * (d * x * i) := by grind
theorem rg4 {l x : Rat} (h : l ≠ 0) : x - (0 + l / l * x) = 0 := by
  have : l / l = 1 := by rw [Rat.div_def]; exact Rat.mul_inv_cancel _ h
  grind
theorem rmul_ne {a b : Rat} (ha : a ≠ 0) (hb : b ≠ 0) : a * b ≠ 0 := fun z => by
  have h1 := Rat.inv_mul_cancel _ ha
  grind
theorem rg5 {m l k kq lq lx : Rat} (hm : m ≠ 0) (hl : l ≠ 0) : k - (l / (m * l) * (m * (k - kq / lq * lx)) + kq / lq * lx) = 0 := by
  have h3 : m * l * (m * l)⁻¹ = 1 := Rat.mul_inv_cancel _ (rmul_ne hm hl)
  have e : l / (m * l) * m = 1 := by rw [Rat.div_def]; grind
  generalize kq / lq = z at *
  generalize l / (m * l) = y at *
  grind
theorem rg6 {s i r y : Rat} (h : i * s = 1) : r + y = y + i * (s * r) := by grind
theorem rg7 {o r y s : Rat} (h : o = r + y) : s * r = s * o + -s * y := by grind
theorem rg8 {o r y d : Rat} (h : y = d) (g : o = r + y) : o - d = r := by grind
theorem rg9 (m k z l : Rat) : m * (k - z * l) = m * k + -(m * z) * l := by grind
theorem rg10 {a y : Rat} (h : a - y = 0) : a = y := by grind
theorem ic {x : Int} (h : x ≠ 0) : (x : Rat) ≠ 0 := fun z => h (Rat.intCast_inj.mp (by rw [z]; rfl))
section
variable {n k B : Nat} {p : Nat → Nat} {K a : Nat → Nat → Int}
theorem Bas.lead (b : Bas n k B p K a) {i : Nat} (h : i < k) : (K i (p i) : Rat) ≠ 0 := ic (by have := b.pos i h; omega)
theorem Bas.inj (b : Bas n k B p K a) {i j : Nat} (hi : i < k) (hj : j < k) (e : p i = p j) : i = j := Classical.byContradiction fun ne => by
  have h1 := b.off i hi j hj ne
  have h2 := b.pos i hi
  rw [← e] at h1
  omega
theorem Bas.at0 (b : Bas n k B p K a) {u : Nat → Rat} {j : Nat} (hj : j < k) : rs k p K u (p j) = 0 := by
  unfold rs
  rw [sm_one (k := j) hj fun t ht ne => ?_]
  · have := b.lead hj
    rw [Rat.div_def]
    have e : (K j (p j) : Rat)⁻¹ * (K j (p j) : Rat) = 1 := Rat.inv_mul_cancel _ this
    grind
  · rw [b.off t ht j hj ne, Rat.intCast_zero]
    grind
theorem Bas.kk (b : Bas n k B p K a) {i : Nat} (h : i < k) : InB n k p K (fun x => (K i x : Rat)) := fun x _ => by
  unfold rs
  rw [sm_one (k := i) h fun t ht ne => ?_]
  · have e : (K i (p i) : Rat) / (K i (p i) : Rat) = 1 := by
      rw [Rat.div_def]
      exact Rat.mul_inv_cancel _ (b.lead h)
    rw [e]
    grind
  · show (K i (p t) : Rat) / (K t (p t) : Rat) * (K t x : Rat) = 0
    rw [b.off i h t ht (fun z => ne z.symm), Rat.intCast_zero, Rat.div_def, Rat.zero_mul, Rat.zero_mul]
/-- in the span exactly if nothing is left -/
theorem Bas.mem (b : Bas n k B p K a) {u : Nat → Rat} : Spn n k (fun l x => (a l x : Rat)) u ↔ InB n k p K u := by
  constructor
  · intro ⟨c, hc⟩
    exact inb_congr b.lt (inb_lin (c := c) fun t ht => b.ak t ht) hc
  · intro h
    refine spn_congr (spn_lin (c := fun t => u (p t) / (K t (p t) : Rat)) fun t ht => b.ka t ht) fun x hx => ?_
    have := h x hx
    unfold rs at this
    grind
theorem prim_dvd {z : Nat → Int} {l D : Int} (pr : ∀ d : Int, (∀ x, x < n → d ∣ z x) → d ∣ 1) (hl : l ≠ 0) (h : ∀ x, x < n → l ∣ D * z x) : l ∣ D := by
  have g0 : 0 < Int.gcd l D := Int.gcd_pos_of_ne_zero_left _ hl
  obtain ⟨l', e1⟩ : (Int.gcd l D : Int) ∣ l := Int.gcd_dvd_left _ _
  obtain ⟨d', e2⟩ : (Int.gcd l D : Int) ∣ D := Int.gcd_dvd_right _ _
  generalize hg : Int.gcd l D = g at *
  have c : Int.gcd l' d' = 1 := by
    have := Int.gcd_mul_left (g : Int) l' d'
    rw [← e1, ← e2, hg, Int.natAbs_natCast] at this
    exact Nat.eq_of_mul_eq_mul_left g0 (by rw [Nat.mul_one]; exact this.symm)
  have q : l' ∣ 1 := pr l' fun x hx => by
    obtain ⟨y, hy⟩ := h x hx
    have : l' ∣ d' * z x := ⟨y, by
      have g1 : (g : Int) ≠ 0 := by omega
      refine Int.eq_of_mul_eq_mul_left g1 ?_
      rw [← Int.mul_assoc, ← Int.mul_assoc, ← e1, ← e2, hy]⟩
    refine Int.natAbs_dvd_natAbs.mp ?_
    have t2 := Int.natAbs_dvd_natAbs.mpr this
    rw [Int.natAbs_mul] at t2
    exact Nat.Coprime.dvd_of_dvd_mul_left (show Nat.Coprime l'.natAbs d'.natAbs from c) t2
  obtain ⟨y, hy⟩ := q
  refine ⟨y * d', ?_⟩
  calc D = g * d' := e2
    _ = g * (l' * y) * d' := by rw [← hy, Int.mul_one]
    _ = g * l' * (y * d') := by simp only [Int.mul_assoc]
    _ = l * (y * d') := by rw [← e1]
/-- the sizes of what is kept -/
theorem Bas.size (b : Bas n k B p K a) (hB : 1 ≤ B) : ∃ D : Int, D ≠ 0 ∧ D.natAbs ≤ (k * B) ^ k ∧ ∀ i, i < k → K i (p i) ∣ D ∧ ∀ x, x < n → (K i x).natAbs ≤ k * ((k * B) ^ k * B) := by
  obtain ⟨D, eD, bD⟩ : IB ((k * B) ^ k) (det k (fun i j => (a i (p j) : Rat))) := IB.det fun i hi j hj => ⟨_, rfl, b.ab i hi _ (b.lt j hj)⟩
  have d0 : D ≠ 0 := fun z => b.dt (by rw [eD, z]; rfl)
  refine ⟨D, d0, bD, fun i hi => ?_⟩
  obtain ⟨c, hc⟩ := b.ka i hi
  have hc : ∀ x, x < n → (K i x : Rat) = sm k (fun l => c l * (a l x : Rat)) := hc
  have li := b.lead hi
  have inv : (K i (p i) : Rat) * (K i (p i) : Rat)⁻¹ = 1 := Rat.mul_inv_cancel _ li
  -- c over the lead, times D
  have cr : ∀ j, j < k → IB ((k * B) ^ k) (c j * (K i (p i) : Rat)⁻¹ * (D : Rat)) := fun j hj => by
    rw [← eD, ← cramer (n := k) (A := fun i j => (a i (p j) : Rat)) (c := fun l => c l * (K i (p i) : Rat)⁻¹) hj]
    refine IB.det fun r hr x hx => ?_
    by_cases e : r = j
    · rw [e, row_at]
      have e2 : sm k (fun l => c l * (K i (p i) : Rat)⁻¹ * (a l (p x) : Rat)) = (K i (p i) : Rat)⁻¹ * (K i (p x) : Rat) := by
        rw [hc _ (b.lt x hx), ← sm_mul]
        exact sm_congr fun l _ => rg1 _ _ _
      rw [e2]
      by_cases e3 : i = x
      · rw [← e3, Rat.mul_comm, inv]
        exact ⟨1, rfl, hB⟩
      · rw [b.off i hi x hx e3]
        exact ⟨0, by rw [Rat.intCast_zero]; grind, Nat.zero_le _⟩
    · rw [row_ne e]
      exact ⟨_, rfl, b.ab r hr _ (b.lt x hx)⟩
  have ent : ∀ x, x < n → IB (k * ((k * B) ^ k * B)) ((D : Rat) * (K i x : Rat) * (K i (p i) : Rat)⁻¹) := fun x hx => by
    have e : (D : Rat) * (K i x : Rat) * (K i (p i) : Rat)⁻¹ = sm k (fun l => c l * (K i (p i) : Rat)⁻¹ * (D : Rat) * (a l x : Rat)) := by
      rw [hc x hx]
      have : sm k (fun l => c l * (K i (p i) : Rat)⁻¹ * (D : Rat) * (a l x : Rat)) = ((D : Rat) * (K i (p i) : Rat)⁻¹) * sm k (fun l => c l * (a l x : Rat)) := by
        rw [← sm_mul]
        exact sm_congr fun l _ => rg2 _ _ _ _
      rw [this]
      exact rg11 _ _ _
    rw [e]
    exact IB.sm fun l hl => (cr l hl).mul ⟨_, rfl, b.ab l hl x hx⟩
  have ent2 : ∀ x, x < n → ∃ z : Int, D * K i x = K i (p i) * z ∧ z.natAbs ≤ k * ((k * B) ^ k * B) := fun x hx => by
    obtain ⟨z, e, h⟩ := ent x hx
    refine ⟨z, Rat.intCast_inj.mp ?_, h⟩
    rw [Rat.intCast_mul, Rat.intCast_mul, ← e]
    exact rg3 inv
  have dv : K i (p i) ∣ D := prim_dvd (b.pr i hi) (by have := b.pos i hi; omega) fun x hx => by
    obtain ⟨z, e, _⟩ := ent2 x hx
    exact ⟨z, e⟩
  refine ⟨dv, fun x hx => ?_⟩
  obtain ⟨z, e, h⟩ := ent2 x hx
  refine Nat.le_trans ?_ h
  have e3 : D.natAbs * (K i x).natAbs = (K i (p i)).natAbs * z.natAbs := by rw [← Int.natAbs_mul, e, Int.natAbs_mul]
  have l3 : (K i (p i)).natAbs ≤ D.natAbs := Nat.le_of_dvd (by omega) (Int.natAbs_dvd_natAbs.mpr dv)
  have l4 : D.natAbs * (K i x).natAbs ≤ D.natAbs * z.natAbs := by
    rw [e3]
    exact Nat.mul_le_mul_right _ l3
  exact Nat.le_of_mul_le_mul_left l4 (by omega)
/-- one row more -/
theorem Bas.more (b : Bas n k B p K a) {o left : Nat → Int} {s : Rat} {q : Nat} {p' : Nat → Nat} {K' a' : Nat → Nat → Int} {m : Nat → Rat}
    (ho : ∀ x, x < n → (o x).natAbs ≤ B) (hs : s ≠ 0) (hl : ∀ x, x < n → (left x : Rat) = s * rs k p K (fun x => (o x : Rat)) x)
    (hq : q < n) (lq : 0 < left q) (lz : ∀ x, x < q → left x = 0) (lp : ∀ d : Int, (∀ x, x < n → d ∣ left x) → d ∣ 1)
    (p1 : ∀ t, t < k → p' t = p t) (p2 : p' k = q)
    (k1 : ∀ t, t < k → 0 < m t ∧ ∀ x, x < n → (K' t x : Rat) = m t * ((K t x : Rat) - (K t q : Rat) / (left q : Rat) * (left x : Rat)))
    (k2 : ∀ x, x < n → K' k x = left x) (kp : ∀ t, t < k → ∀ d : Int, (∀ x, x < n → d ∣ K' t x) → d ∣ 1)
    (a1 : ∀ t, t < k → ∀ x, x < n → a' t x = a t x) (a2 : ∀ x, x < n → a' k x = o x) : Bas n (k + 1) B p' K' a' := by
  have lq0 : (left q : Rat) ≠ 0 := ic (by omega)
  -- left is 0 at the earlier leads
  have l0 : ∀ t, t < k → left (p t) = 0 := fun t ht => by
    have := hl _ (b.lt t ht)
    rw [b.at0 ht, Rat.mul_zero] at this
    exact Rat.intCast_inj.mp (by rw [this]; rfl)
  have qp : ∀ t, t < k → p t ≠ q := fun t ht z => by
    have := l0 t ht
    rw [z] at this
    omega
  have kl : ∀ t, t < k → (K' t (p t) : Rat) = m t * (K t (p t) : Rat) := fun t ht => by
    rw [(k1 t ht).2 _ (b.lt t ht), l0 t ht, Rat.intCast_zero]
    grind
  have kq : ∀ t, t < k → K' t q = 0 := fun t ht => by
    have := (k1 t ht).2 q hq
    have e : (K t q : Rat) / (left q : Rat) * (left q : Rat) = K t q := by
      rw [Rat.div_def, Rat.mul_assoc, Rat.inv_mul_cancel _ lq0, Rat.mul_one]
    rw [e] at this
    refine Rat.intCast_inj.mp ?_
    rw [this, Rat.intCast_zero, Rat.sub_self, Rat.mul_zero]
  have lt' : ∀ t, t < k + 1 → p' t < n := fun t ht => by
    by_cases e : t = k
    · rw [e, p2]; exact hq
    · rw [p1 t (by omega)]; exact b.lt t (by omega)
  -- the new basis has left and the old rows
  have inL : InB n (k + 1) p' K' (fun x => (left x : Rat)) := fun x hx => by
    show (left x : Rat) - (sm k _ + (left (p' k) : Rat) / (K' k (p' k) : Rat) * (K' k x : Rat)) = 0
    rw [sm_zero fun t ht => ?_, p2, k2 q hq, k2 x hx]
    · exact rg4 lq0
    · show (left (p' t) : Rat) / (K' t (p' t) : Rat) * (K' t x : Rat) = 0
      rw [p1 t ht, l0 t ht, Rat.intCast_zero, Rat.div_def, Rat.zero_mul, Rat.zero_mul]
  have inK : ∀ t, t < k → InB n (k + 1) p' K' (fun x => (K t x : Rat)) := fun t ht x hx => by
    show (K t x : Rat) - (sm k _ + (K t (p' k) : Rat) / (K' k (p' k) : Rat) * (K' k x : Rat)) = 0
    rw [sm_one (k := t) ht fun j hj ne => ?_, p2, k2 q hq, k2 x hx, p1 t ht, kl t ht, (k1 t ht).2 x hx]
    · exact rg5 (fun z => by have := (k1 t ht).1; rw [z] at this; exact absurd this (by decide)) (b.lead ht)
    · show (K t (p' j) : Rat) / (K' j (p' j) : Rat) * (K' j x : Rat) = 0
      rw [p1 j hj, b.off t ht j hj (fun z => ne z.symm), Rat.intCast_zero, Rat.div_def, Rat.zero_mul, Rat.zero_mul]
  have eo : ∀ x, (o x : Rat) = rs k p K (fun x => (o x : Rat)) x + sm k (fun t => (o (p t) : Rat) / (K t (p t) : Rat) * (K t x : Rat)) := fun x => by unfold rs; grind
  have is : s⁻¹ * s = 1 := Rat.inv_mul_cancel _ hs
  have inO : InB n (k + 1) p' K' (fun x => (o x : Rat)) := by
    have h := inb_lin (n := n) (k := k + 1) (m := k + 1) (p := p') (K := K') (b := fun t x => if t = k then (left x : Rat) else (K t x : Rat)) (c := fun t => if t = k then s⁻¹ else (o (p t) : Rat) / (K t (p t) : Rat)) fun t ht => by
      by_cases e : t = k
      · simp only [if_pos e]; exact inL
      · simp only [if_neg e]; exact inK t (by omega)
    refine inb_congr lt' h fun x hx => ?_
    show (o x : Rat) = sm k (fun t => (if t = k then s⁻¹ else (o (p t) : Rat) / (K t (p t) : Rat)) * (if t = k then (left x : Rat) else (K t x : Rat))) + (if k = k then s⁻¹ else (o (p k) : Rat) / (K k (p k) : Rat)) * (if k = k then (left x : Rat) else (K k x : Rat))
    rw [if_pos rfl, if_pos rfl, hl x hx, sm_congr (f := fun t => (if t = k then s⁻¹ else (o (p t) : Rat) / (K t (p t) : Rat)) * (if t = k then s * rs k p K (fun x => (o x : Rat)) x else (K t x : Rat))) (g := fun t => (o (p t) : Rat) / (K t (p t) : Rat) * (K t x : Rat)) fun t ht => by rw [if_neg (by omega), if_neg (by omega)]]
    exact (eo x).trans (rg6 is)
  -- spans
  have a1' : ∀ l, l < k → ∀ x, x < n → (a l x : Rat) = (a' l x : Rat) := fun l hl x hx => by rw [a1 l hl x hx]
  have spK : ∀ t, t < k → Spn n (k + 1) (fun l x => (a' l x : Rat)) (fun x => (K t x : Rat)) := fun t ht => spn_more (spn_ext (b.ka t ht) a1')
  have spO : Spn n (k + 1) (fun l x => (a' l x : Rat)) (fun x => (o x : Rat)) := spn_congr (spn_in (i := k) (by omega)) fun x hx => by rw [a2 x hx]
  have spL : Spn n (k + 1) (fun l x => (a' l x : Rat)) (fun x => (left x : Rat)) := by
    have h := spn_add (r := s) (s := -s) spO (spn_lin (c := fun t => (o (p t) : Rat) / (K t (p t) : Rat)) spK)
    refine spn_congr h fun x hx => ?_
    rw [hl x hx]
    exact rg7 (eo x)
  -- one more row of the determinant
  obtain ⟨d, hd⟩ : Spn n k (fun l x => (a l x : Rat)) (fun x => sm k (fun t => (o (p t) : Rat) / (K t (p t) : Rat) * (K t x : Rat))) := spn_lin b.ka
  have rsq : ∀ x, x < n → (o x : Rat) - sm k (fun l => d l * (a l x : Rat)) = rs k p K (fun x => (o x : Rat)) x := fun x hx => by
    exact rg8 (hd x hx) (eo x)
  have dt : det (k + 1) (fun i j => (a' i (p' j) : Rat)) ≠ 0 := by
    have dk : det k (fun i j => (a' i (p' j) : Rat)) = det k (fun i j => (a i (p j) : Rat)) := det_congr fun i hi j hj => by rw [p1 j hj, a1 i hi _ (b.lt j hj)]
    have col : ∀ j, j < k + 1 → (a' k (p' j) : Rat) - sm k (fun l => d l * (a' l (p' j) : Rat)) = rs k p K (fun x => (o x : Rat)) (p' j) := fun j hj => by
      rw [a2 _ (lt' j hj), ← rsq _ (lt' j hj), sm_congr (g := fun l => d l * (a l (p' j) : Rat)) fun l hl => by rw [a1 l hl _ (lt' j hj)]]
    rw [det_last (d := d) fun j hj => by rw [col j (by omega), p1 j hj, b.at0 hj], col k (by omega), p2, dk]
    refine rmul_ne (fun z => ?_) b.dt
    have := hl q hq
    rw [z, Rat.mul_zero] at this
    exact lq0 this
  refine ⟨lt', fun i hi => ?_, fun i hi j hj ne => ?_, fun i hi x hx => ?_, fun i hi => ?_, fun i hi => ?_, fun i hi => ?_, fun i hi x hx => ?_, dt⟩
  · by_cases e : i = k
    · rw [e, p2, k2 q hq]; exact lq
    · have hi : i < k := by omega
      rw [p1 i hi]
      have h1 := kl i hi
      have h2 : (0 : Rat) < (K i (p i) : Rat) := by have := b.pos i hi; exact Rat.intCast_pos.mpr this
      have h3 := Rat.mul_pos (k1 i hi).1 h2
      rw [← h1] at h3
      exact Rat.intCast_pos.mp h3
  · by_cases e : i = k
    · rw [e, p1 j (by omega), k2 _ (b.lt j (by omega))]
      exact l0 j (by omega)
    · by_cases e2 : j = k
      · rw [e2, p2]
        exact kq i (by omega)
      · rw [p1 j (by omega)]
        have := (k1 i (by omega)).2 _ (b.lt j (by omega))
        rw [b.off i (by omega) j (by omega) ne, l0 j (by omega), Rat.intCast_zero] at this
        refine Rat.intCast_inj.mp ?_
        rw [this, Rat.intCast_zero, Rat.mul_zero, Rat.sub_self, Rat.mul_zero]
  · by_cases e : i = k
    · rw [e, p2] at hx
      rw [e, k2 x (by omega)]
      exact lz x hx
    · have hi : i < k := by omega
      rw [p1 i hi] at hx
      have xn : x < n := by have := b.lt i hi; omega
      have := (k1 i hi).2 x xn
      rw [b.zb i hi x hx] at this
      refine Rat.intCast_inj.mp ?_
      rw [this, Rat.intCast_zero]
      by_cases h : q < p i
      · rw [b.zb i hi q h, Rat.intCast_zero, Rat.div_def, Rat.zero_mul, Rat.zero_mul, Rat.sub_self, Rat.mul_zero]
      · rw [lz x (by omega), Rat.intCast_zero, Rat.mul_zero, Rat.sub_self, Rat.mul_zero]
  · by_cases e : i = k
    · rw [e]
      intro d h
      exact lp d fun x hx => by rw [← k2 x hx]; exact h x hx
    · exact kp i (by omega)
  · by_cases e : i = k
    · rw [e]
      exact spn_congr spL fun x hx => by rw [k2 x hx]
    · have hi : i < k := by omega
      refine spn_congr (spn_add (r := m i) (s := - (m i * ((K i q : Rat) / (left q : Rat)))) (spK i hi) spL) fun x hx => ?_
      rw [(k1 i hi).2 x hx]
      exact rg9 _ _ _ _
  · by_cases e : i = k
    · rw [e]
      exact inb_congr lt' inO fun x hx => by rw [a2 x hx]
    · have hi : i < k := by omega
      have h := inb_lin (n := n) (k := k + 1) (m := k) (p := p') (K := K') (b := fun t x => (K t x : Rat)) (c := fun t => (a i (p t) : Rat) / (K t (p t) : Rat)) inK
      refine inb_congr lt' h fun x hx => ?_
      have h2 := b.ak i hi x hx
      unfold rs at h2
      show (a' i x : Rat) = _
      rw [a1 i hi x hx]
      exact rg10 h2
  · by_cases e : i = k
    · rw [e, a2 x hx]; exact ho x hx
    · rw [a1 i (by omega) x hx]; exact b.ab i (by omega) x hx
theorem pig : ∀ (n k : Nat) (p : Nat → Nat), (∀ i, i < k → p i < n) → (∀ i, i < k → ∀ j, j < k → p i = p j → i = j) → k ≤ n
  | 0, k, p, h, _ => Classical.byContradiction fun c => absurd (h 0 (by omega)) (by omega)
  | n + 1, k, p, h, inj => by
    by_cases e : ∃ i, i < k ∧ p i = n
    · obtain ⟨i0, h0, e0⟩ := e
      have := pig n (k - 1) (fun j => if j = i0 then p (k - 1) else p j) (fun i hi => by
        by_cases ei : i = i0
        · rw [if_pos ei]
          have h1 := h (k - 1) (by omega)
          by_cases z : p (k - 1) = n
          · have := inj (k - 1) (by omega) i0 h0 (by rw [z, e0]); omega
          · omega
        · rw [if_neg ei]
          have h1 := h i (by omega)
          by_cases z : p i = n
          · exact absurd (inj i (by omega) i0 h0 (by rw [z, e0])) ei
          · omega) fun i hi j hj e => by

        by_cases ei : i = i0
        · by_cases ej : j = i0
          · omega
          · rw [if_pos ei, if_neg ej] at e
            have := inj (k - 1) (by omega) j (by omega) e
            omega
        · by_cases ej : j = i0
          · rw [if_neg ei, if_pos ej] at e
            have := inj i (by omega) (k - 1) (by omega) e
            omega
          · rw [if_neg ei, if_neg ej] at e
            exact inj i (by omega) j (by omega) e
      omega
    · have := pig n k p (fun i hi => by
        have := h i hi
        have : p i ≠ n := fun z => e ⟨i, hi, z⟩
        omega) inj
      omega
theorem Bas.le (b : Bas n k B p K a) : k ≤ n := pig n k p b.lt fun i hi j hj e => b.inj hi hj e
theorem pow_mono {k n B : Nat} (h : k ≤ n) (hB : 1 ≤ B) : (k * B) ^ k ≤ (n * B) ^ n := by
  by_cases n0 : n = 0
  · have : k = 0 := by omega
    subst n0 this
    exact Nat.le_refl _
  · have : 1 ≤ n * B := Nat.mul_pos (by omega) hB
    exact Nat.le_trans (Nat.pow_le_pow_left (Nat.mul_le_mul_right B h) k) (Nat.pow_le_pow_right this h)
end
end DT

set_option Elab.async false
set_option linter.all false
set_option maxRecDepth 100000
/-! zip of two, each a list or a tuple -/
namespace ZM
open PySem PySem.Spec PyProof.Rows L2
/-- a tuple (true) or a list -/
def SqB (k : Bool) (K : PySem.W.Frag) (H : Hp) (a : Addr) (xs : List V) : Prop := (k = true ∧ SqT K H a xs) ∨ (k = false ∧ SqL K H a xs)
def IterB (k : Bool) (h : Heap) (it a : Addr) (i : Nat) : Prop := (k = true ∧ h.IsTupleIter it a i) ∨ (k = false ∧ h.IsListIter it a i)
def IsB (k : Bool) (h : Heap) (a : Addr) (its : Array Value) : Prop := (k = true ∧ h.IsTuple a its) ∨ (k = false ∧ h.IsList a its)
theorem IterB.at {k : Bool} {h h' : Heap} {it a : Addr} {i : Nat} (x : IterB k h it a i) (e : ∀ o, h.get? it = some o → h'.get? it = some o) : IterB k h' it a i := x.imp (fun ⟨u, y⟩ => ⟨u, y.at e⟩) fun ⟨u, y⟩ => ⟨u, y.at e⟩
theorem IterB.there {k : Bool} {h : Heap} {it a : Addr} {i : Nat} (x : IterB k h it a i) : ∃ o fs, h.get? it = some o ∧ o.data = .fields fs := by
  rcases x with ⟨_, o, e, _, d⟩ | ⟨_, o, e, _, d⟩ <;> exact ⟨o, _, e, d⟩
theorem drawsB {prog : Program} {w : World} {A : Around} (hh : A.handled = none) (k : Bool) (it l : Addr) (hne : l ≠ it) (items : Array Value) :
    Draws prog w A it [it, l] items.size (fun i v => items[i]? = some v) (fun i h => IterB k h it l i ∧ IsB k h l items) := by
  cases k with
  | true =>
    have D := Draws.tuple (prog := prog) (w := w) hh it l hne items
    have e : (fun (i : Nat) (h : Heap) => h.IsTupleIter it l i ∧ h.IsTuple l items) = fun i h => IterB true h it l i ∧ IsB true h l items := by
      funext i h
      simp [IterB, IsB]
    rw [← e]
    exact D
  | false =>
    have D := Draws.list (prog := prog) (w := w) hh it l hne items
    have e : (fun (i : Nat) (h : Heap) => h.IsListIter it l i ∧ h.IsList l items) = fun i h => IterB false h it l i ∧ IsB false h l items := by
      funext i h
      simp [IterB, IsB]
    rw [← e]
    exact D
/-- at its end, or not yet -/
theorem drawsE {prog : Program} {w : World} {A : Around} (hh : A.handled = none) (k : Bool) (it l : Addr) (hne : l ≠ it) (items : Array Value) (i : Nat) {h : Heap} (h1 : IterB k h it l i) (h2 : IsB k h l items) :
    ∃ (n : Nat) (St : Nat → Heap → Prop), Draws prog w A it [it, l] n (fun _ _ => True) St ∧ St i h ∧ i ≤ n ∧ (items.size ≤ i → i = n) := by
  have D := drawsB (prog := prog) (w := w) hh k it l hne items
  by_cases le : items.size ≤ i
  · refine ⟨i, fun j h => j = i ∧ IterB k h it l i ∧ IsB k h l items, ?_, ⟨rfl, h1, h2⟩, Nat.le_refl _, fun _ => rfl⟩
    refine { live := fun j h st => D.live i h st.2, frame := fun j h h' st hk => ⟨st.1, D.frame i h h' st.2 hk⟩, item := fun j s Q E hi st hQ => absurd hi (by rw [st.1]; exact Nat.lt_irrefl _), done := fun s Q E st hE => ?_ }
    have no : items[i]? = none := Array.getElem?_eq_none le
    obtain ⟨_, a, b⟩ := st
    rcases a with ⟨rfl, a⟩ | ⟨rfl, a⟩
    · have b : s.heap.IsTuple l items := by rcases b with ⟨_, b⟩ | ⟨z, _⟩; exact b; cases z
      exact PySem.wpAny_nextOf_tuple_end hh a b no hE
    · have b : s.heap.IsList l items := by rcases b with ⟨z, _⟩ | ⟨_, b⟩; cases z; exact b
      exact PySem.wpAny_nextOf_list_end hh a b no hE
  · refine ⟨items.size, _, ⟨D.live, D.frame, fun j s Q E hi st hQ => D.item j s Q E hi st fun x h' tk _ => hQ x h' tk trivial, D.done⟩, ⟨h1, h2⟩, by omega, fun z => absurd z le⟩
theorem beginsB (k : Bool) (l : Addr) (items : Array Value) : ∃ o, Begins (.ref l) o (fun h => IsB k h l items) ∧ ∀ h it, h.get? it = some o → IterB k h it l 0 := by
  cases k with
  | true =>
    refine ⟨{ cls := .type "tuple_iterator", data := .fields #[.ref l, .int 0 0] }, ?_, fun h it e => .inl ⟨rfl, _, e, rfl, rfl⟩⟩
    have B := begins_tuple l items
    have e : (fun (h : Heap) => h.IsTuple l items) = fun h => IsB true h l items := by
      funext h
      simp [IsB]
    rw [← e]
    exact B
  | false =>
    refine ⟨{ cls := .type "list_iterator", data := .fields #[.ref l, .int 0 0] }, ?_, fun h it e => .inr ⟨rfl, _, e, rfl, rfl⟩⟩
    have B := begins_list l items
    have e : (fun (h : Heap) => h.IsList l items) = fun h => IsB false h l items := by
      funext h
      simp [IsB]
    rw [← e]
    exact B
section
variable {X : Cx} {pins : List (Addr × Obj)} {σ : L2.St} {H : Hp} {s : Shared}
theorem sqB_its {a : Addr} {xs : List V} {k : Bool} (I : Inv X pins σ H s) (h : SqB k X.K H a xs) : ∃ its : List Value, Vals xs its ∧ IsB k s.heap a its.toArray ∧ a < s.heap.objs.size := by
  rcases h with ⟨rfl, h⟩ | ⟨rfl, h⟩
  · obtain ⟨its, r, p, _⟩ := I.tuple h
    obtain ⟨o, ho, _⟩ := id p
    exact ⟨its, r, .inl ⟨rfl, p⟩, Heap.lt_size ho⟩
  · obtain ⟨its, r, p, _⟩ := I.list h
    exact ⟨its, r, .inr ⟨rfl, p.isList⟩, p.lt⟩
theorem sqB_inj {a : Addr} {xs ys : List V} {k : Bool} (I : Inv X pins σ H s) (h : SqB k X.K H a xs) (h' : SqB k X.K H a ys) : xs = ys := by
  rcases h with ⟨rfl, h⟩ | ⟨rfl, h⟩
  · rcases h' with ⟨_, h'⟩ | ⟨z, _⟩
    · exact I.tuple_inj h h'
    · cases z
  · rcases h' with ⟨z, _⟩ | ⟨_, h'⟩
    · cases z
    · exact I.list_inj h h'
end
/-- the two at a and b as they stand at each turn, the items in new pairs -/
def ItzB (k l : Bool) (K : PySem.W.Frag) (a b : Addr) : It :=
  ⟨fun i H => ∃ (xs ys : List V) (x y : V), SqB k K H a xs ∧ SqB l K H b ys ∧ xs[i]? = some x ∧ ys[i]? = some y,
    fun i H v H' => ∃ T x y, v = .ref T ∧ H T = none ∧ H' = upd H T (.tup [x, y]) ∧ (∀ xs, SqB k K H a xs → xs[i]? = some x) ∧ ∀ ys, SqB l K H b ys → ys[i]? = some y,
    fun i H => ∃ xs ys : List V, SqB k K H a xs ∧ SqB l K H b ys ∧ (xs.length ≤ i ∨ ys.length ≤ i)⟩
theorem sepB {z TI TO i1 i2 a b : Addr} (D : ZipApart z TI TO i1 i2 a b) : ZipSep2 z TI TO i1 i2 [i1, a] [i2, b] where
  TIz := D.TIz
  TOz := D.TOz
  TITO := D.TITO
  TIi1 := D.TIi1
  mem1 := by simp
  zf1 := by simp; exact ⟨D.i1z.symm, D.l1z.symm⟩
  Tf1 := by simp; exact ⟨D.TOi1, D.l1TO.symm⟩
  TIi2 := D.TIi2
  mem2 := by simp
  zf2 := by simp; exact ⟨D.i2z.symm, D.l2z.symm⟩
  Tf2 := by simp; exact ⟨D.TOi2, D.l2TO.symm⟩
  sep1_2 := by simp; exact ⟨D.i12, D.l2i1.symm⟩
  sep2_1 := by simp; exact ⟨D.i12.symm, D.l1i2.symm⟩
theorem turn_zipB {P : Program} {w : World} {K : PySem.W.Frag} {elts : List Expr} {kk : Nat} {tpos : Pos} {k l : Bool} {a b z TI TO i1 i2 : Addr} (D : ZipApart z TI TO i1 i2 a b) :
    Turn P w K (.Tuple elts kk tpos) (ItzB k l K a b) [z, TI, TO, i1, i2] z (fun i h => IsZip h z TI TO .none ∧ IsPair h TI (.ref i1) (.ref i2) ∧ (∃ x y, IsPair h TO x y) ∧ IterB k h i1 a i ∧ IterB l h i2 b i) where
  mem := by simp
  obj := fun i h st c hc => by
    obtain ⟨hz, hTI, ⟨x, y, hTO⟩, j1, j2⟩ := st
    obtain ⟨o1, f1, e1, d1⟩ := j1.there
    obtain ⟨o2, f2, e2, d2⟩ := j2.there
    have e' : c = z ∨ c = TI ∨ c = TO ∨ c = i1 ∨ c = i2 := by simpa using hc
    rcases e' with q | q | q | q | q
    · rw [q]; exact ⟨_, hz, fun v q => nomatch q⟩
    · rw [q]; exact ⟨_, hTI, fun v q => nomatch q⟩
    · rw [q]; exact ⟨_, hTO, fun v q => nomatch q⟩
    · rw [q]; exact ⟨o1, e1, fun v q => by rw [d1] at q; cases q⟩
    · rw [q]; exact ⟨o2, e2, fun v q => by rw [d2] at q; cases q⟩
  keep := fun i h h' st k => by
    obtain ⟨hz, hTI, ⟨x, y, hTO⟩, h1, h2⟩ := st
    exact ⟨k z (by simp) _ hz, k TI (by simp) _ hTI, ⟨x, y, k TO (by simp) _ hTO⟩, h1.at fun o q => k i1 (by simp) o q, h2.at fun o q => k i2 (by simp) o q⟩
  item := by
    intro X hP hw hK hc i pins s σ H E I hf st hg
    subst hP hw hK
    obtain ⟨hz, hTI, ⟨x0, y0, hTO⟩, h1, h2⟩ := st
    obtain ⟨xs, ys, x, y, hqx, hqy, hx, hy⟩ := hg
    obtain ⟨its, rv, p, _⟩ := sqB_its I hqx
    obtain ⟨its2, rv2, p2, _⟩ := sqB_its I hqy
    obtain ⟨u, hu, ru⟩ := rv.get hx
    obtain ⟨u2, hu2, ru2⟩ := rv2.get hy
    have hzl : z < s.heap.objs.size := Heap.lt_size hz
    have hnd : X.A.in1.handled = none := I.ok.hd hc
    have lt1 : i < its.toArray.size := by rw [List.size_toArray]; exact (List.getElem?_eq_some_iff.mp hu).1
    have lt2 : i < its2.toArray.size := by rw [List.size_toArray]; exact (List.getElem?_eq_some_iff.mp hu2).1
    refine wpAny_pyNext_zipD2_item (sepB D) (drawsB hnd k i1 a D.l1i1 its.toArray) (drawsB hnd l i2 b D.l2i2 its2.toArray) hz hTI hTO ⟨h1, p⟩ ⟨h2, p2⟩ lt1 lt2 fun v1 v2 h' tk pv1 pv2 z' TO' g1 g2 hT hsz hk => ?_
    have e1 : v1 = u := by
      have pv1 : its.toArray[i]? = some v1 := pv1
      rw [List.getElem?_toArray, hu] at pv1
      exact (Option.some.inj pv1).symm
    have e2 : v2 = u2 := by
      have pv2 : its2.toArray[i]? = some v2 := pv2
      rw [List.getElem?_toArray, hu2] at pv2
      exact (Option.some.inj pv2).symm
    subst e1 e2
    refine ⟨_, rfl, wpAny_letOwnedTupleGo_zip (s := { s with heap := h', toks := tk }) z' fun h'' z'' sb => ?_⟩
    have hT2 : h''.get? s.heap.objs.size = some { cls := .type "tuple", data := .seq #[v1, v2] } := (sb.2 _ (Nat.ne_of_gt hzl)).trans hT
    have new : ObjOk X.prog X.w (upd H s.heap.objs.size (.tup [x, y])) h'' s.heap.objs.size (.tup [x, y]) :=
      ⟨by show 2 ≤ sizeLine; decide, [v1, v2], .cons ru (.cons ru2 .nil), ⟨_, hT2, rfl, _, rfl⟩⟩
    have I1 : Inv X pins σ (upd H s.heap.objs.size (.tup [x, y])) { s with heap := h'', toks := tk } :=
      I.turnedNew (t' := tk) (ch := [z, TI, TO, i1, i2]) (fun c o hb q => (sb.2 c (fun q' => hb (by simp [q']))).trans (hk c o (fun q' => hb (by simp [q'])) (fun q' => hb (by simp [q'])) (fun q' => hb (by simp [q'])) (fun q' => hb (by simp [q'])) q)) hf (Nat.le_refl _) new
    refine ⟨.ref s.heap.objs.size, _, I1, rfl, ⟨_, x, y, rfl, I.hok.fresh (Nat.le_refl _), rfl, fun l hl => by rw [sqB_inj I hl hqx]; exact hx, fun l hl => by rw [sqB_inj I hl hqy]; exact hy⟩, ⟨z'', ?_, ⟨v1, v2, ?_⟩, ?_, ?_⟩, fun c hcm => ?_⟩
    · exact (sb.2 _ D.TIz).trans (hk _ _ D.TIz D.TITO D.TIi1 D.TIi2 hTI)
    · exact (sb.2 _ D.TOz).trans TO'
    · exact g1.1.at fun o q => (sb.2 _ D.i1z).trans q
    · exact g2.1.at fun o q => (sb.2 _ D.i2z).trans q
    · have hlt : c < s.heap.objs.size := by
        have e' : c = z ∨ c = TI ∨ c = TO ∨ c = i1 ∨ c = i2 := by simpa using hcm
        rcases e' with q | q | q | q | q
        · rw [q]; exact hzl
        · rw [q]; exact Heap.lt_size hTI
        · rw [q]; exact Heap.lt_size hTO
        · rw [q]; obtain ⟨_, _, e1, _⟩ := h1.there; exact Heap.lt_size e1
        · rw [q]; obtain ⟨_, _, e2, _⟩ := h2.there; exact Heap.lt_size e2
      rw [upd_ne (Nat.ne_of_lt hlt)]
      exact (hf c hcm).1
  done := by
    intro X hP hw hK hc i pins s σ H E I hf st hg
    subst hP hw hK
    obtain ⟨hz, hTI, ⟨x0, y0, hTO⟩, h1, h2⟩ := st
    obtain ⟨xs, ys, hqx, hqy, hend⟩ := hg
    obtain ⟨its, rv, p, _⟩ := sqB_its I hqx
    obtain ⟨its2, rv2, p2, _⟩ := sqB_its I hqy
    have l1 := rv.length
    have l2 := rv2.length
    have hnd : X.A.in1.handled = none := I.ok.hd hc
    obtain ⟨n1, S1, D1, t1, le1, en1⟩ := drawsE (prog := X.prog) (w := X.w) hnd k i1 a D.l1i1 its.toArray i h1 p
    obtain ⟨n2, S2, D2, t2, le2, en2⟩ := drawsE (prog := X.prog) (w := X.w) hnd l i2 b D.l2i2 its2.toArray i h2 p2
    have he : i = n1 ∨ i = n2 := by
      rcases hend with q | q
      · exact .inl (en1 (by rw [List.size_toArray]; omega))
      · exact .inr (en2 (by rw [List.size_toArray]; omega))
    exact wpAny_pyNext_zipD2_end (sepB D) D1 D2 hz hTI hTO t1 t2 le1 le2 he fun h' tk hk => ⟨rfl, I.turnedL (t' := tk) (ch := [z, TI, TO, i1, i2]) (fun c o hb q =>
      hk c o (fun q' => hb (by simp [q'])) (fun q' => hb (by simp [q'])) (fun q' => hb (by simp [q'])) (fun q' => hb (by simp [q'])) q) hf⟩
  self := fun A i s Q E st h => wpAny_pyIter_zip st.1 h
def iZipM (K : PySem.W.Frag) (ta : TA) : TI := fun σ H R => ta σ H fun vs H1 => ∃ k l a b xs ys, vs = [.ref a, .ref b] ∧ SqB k K H1 a xs ∧ SqB l K H1 b ys ∧ R (ItzB k l K a b) H1
theorem pi_zipM {X : Cx} {e e2 : Expr} {ta : TA} {p pos tpos : Pos} {elts : List Expr} {kk : Nat} (hg : Gl X "zip") (hm : X.mg "zip" = none) (ha : PA X [e, e2] ta)
    (hs : starEach [e, e2] X.env = (false, eval e X.env) :: starEach [e2] X.env := by rfl) (hpl : (backTo pos (starEach [e2] X.env)).any (·.1) = false := by rfl) :
    PI X (.Tuple elts kk tpos) (.Call (.Name "zip" p) [e, e2] [] pos) (iZipM X.K ta) := by
  refine ⟨fun pins s σ H R I h => ?_⟩
  refine Call_ (ld_blt I hg hm PyProof.Rows.boot_zip (PyProof.Rows.callWith_type1 (thn (ha.run pos pins s σ H _ I h) fun us s1 ⟨vs, H1, I1, r1, q1⟩ => ?_) hs hpl))
  obtain ⟨k, l, a, b, xs, ys, ex, hqx, hqy, q⟩ := q1
  subst ex
  cases r1 with
  | cons r rr =>
    cases rr with
    | cons r' rr =>
      cases rr
      cases r
      cases r'
      obtain ⟨its, rv, p1, la⟩ := sqB_its I1 hqx
      obtain ⟨its2, rv2, p2, lb⟩ := sqB_its I1 hqy
      obtain ⟨o1, B1, j1⟩ := beginsB k a its.toArray
      obtain ⟨o2, B2, j2⟩ := beginsB l b its2.toArray
      refine zip_begins2 B1 B2 p1 p2 fun h' hz hTI hTO g1 g2 hsz hk => wpAny_pyIter_zip hz ?_
      have I2 : Inv X pins σ H1 { s1 with heap := h' } := I1.kept (t' := s1.toks) hk
      refine ⟨s1.heap.objs.size + 4, [s1.heap.objs.size + 4, s1.heap.objs.size + 2, s1.heap.objs.size + 3, s1.heap.objs.size, s1.heap.objs.size + 1], _, _, H1, rfl, I2, turn_zipB (PySem.W.ktu_apart s1.heap.objs.size a b la lb), ⟨hz, hTI, ⟨_, _, hTO⟩, j1 _ _ g1, j2 _ _ g2⟩, fun c hcm => ?_, q⟩
      have e' : c = s1.heap.objs.size + 4 ∨ c = s1.heap.objs.size + 2 ∨ c = s1.heap.objs.size + 3 ∨ c = s1.heap.objs.size ∨ c = s1.heap.objs.size + 1 := by simpa using hcm
      have hle : s1.heap.objs.size ≤ c := by
        rcases e' with z | z | z | z | z
        · rw [z]; exact Nat.le_add_right _ _
        · rw [z]; exact Nat.le_add_right _ _
        · rw [z]; exact Nat.le_add_right _ _
        · rw [z]; exact Nat.le_refl _
        · rw [z]; exact Nat.le_add_right _ _
      exact I1.fpOk hle (I1.hok.fresh hle)
/-- within a comprehension -/
theorem pi_zipMK {X : Cx} {K : PySem.W.Frag} (hK : X.K = K) {e e2 : Expr} {ta : TA} {p pos tpos : Pos} {elts : List Expr} {kk : Nat} (hg : Gl X "zip") (hm : X.mg "zip" = none) (ha : PA X [e, e2] ta)
    (hs : starEach [e, e2] X.env = (false, eval e X.env) :: starEach [e2] X.env := by rfl) (hpl : (backTo pos (starEach [e2] X.env)).any (·.1) = false := by rfl) :
    PI X (.Tuple elts kk tpos) (.Call (.Name "zip" p) [e, e2] [] pos) (iZipM K ta) := by
  subst hK
  exact pi_zipM hg hm ha hs hpl
theorem walk_zipM {K : PySem.W.Frag} {k l : Bool} {a b : Addr} {xs ys : List V} {n : Nat} (hn : n = min xs.length ys.length) : Walk (ItzB k l K a b) n (fun H => SqB k K H a xs ∧ SqB l K H b ys) (YPair (fun i => xs[i]?) (fun i => ys[i]?)) := by
  subst hn
  refine ⟨fun i _ hi q => ?_, fun _ q => ⟨xs, ys, q.1, q.2, by omega⟩, fun i H v H' _ q y => ?_⟩
  · have h1 : i < xs.length := by omega
    have h2 : i < ys.length := by omega
    exact ⟨xs, ys, xs[i], ys[i], q.1, q.2, by simp [h1], by simp [h2]⟩
  · obtain ⟨T, x, z, h1, h2, h3, h4, h5⟩ := y
    exact ⟨T, x, z, h1, h2, h3, h4 xs q.1, h5 ys q.2⟩
end ZM

set_option Elab.async false
set_option maxRecDepth 100000
namespace RX
open PySem L2 VA VM
open RQ (Hg Bt)
/-! ### a row of ints: its leading place, the row without a shared factor, freed at a place -/
abbrev sLp : Stmt := topS 22
theorem scLp : FnScope ["row", "at", "number"] ["row"] (defScope sLp) := ⟨rfl, rfl, rfl, by decide +kernel, rfl, by decide +kernel, by decide +kernel⟩
abbrev sWs : Stmt := topS 32
theorem scWs : FnScope ["row", "shared", "number"] ["row"] (defScope sWs) := ⟨rfl, rfl, rfl, by decide +kernel, rfl, by decide +kernel, by decide +kernel⟩
abbrev sFrd : Stmt := topS 31
theorem scFrd : FnScope ["row", "other", "place", "shared", "keep", "take", "mine", "its"] ["row", "other", "place"] (defScope sFrd) := ⟨rfl, rfl, rfl, by decide +kernel, rfl, by decide +kernel, by decide +kernel⟩
def spLp : Sp := fun vs H Q _ => ∃ (p : Addr) (w : Nat) (z : Nat → Int), vs = [.ref p] ∧ H p = some (.lst (iV w z)) ∧
  (∀ (q : Nat) (H' : Hp), q < w → z q ≠ 0 → (∀ j, j < q → z j = 0) → Same H H' → Q (.int (q : Int)) H') ∧ (∀ H' : Hp, (∀ j, j < w → z j = 0) → Same H H' → Q .non H')
/-- no factor is shared -/
def Prm (w : Nat) (z : Nat → Int) : Prop := ∀ d : Int, (∀ x, x < w → d ∣ z x) → d ∣ 1
theorem gf_up {z : Nat → Int} {d : Int} : ∀ {k : Nat}, (∀ j, j < k → d ∣ z j) → d ∣ ((gf z k : Nat) : Int)
  | 0, _ => Int.dvd_zero d
  | k + 1, h => by
    have h1 := gf_up (k := k) fun j hj => h j (by omega)
    have h2 := h k (by omega)
    refine Int.natAbs_dvd_natAbs.mp ?_
    rw [Int.natAbs_natCast]
    have e1 := Int.natAbs_dvd_natAbs.mpr h1
    rw [Int.natAbs_natCast] at e1
    exact Nat.dvd_gcd e1 (Int.natAbs_dvd_natAbs.mpr h2)
theorem gf_zero {z : Nat → Int} {k : Nat} (h : gf z k = 0) : ∀ j, j < k → z j = 0 := fun j hj => Classical.byContradiction fun n => by
  have := gf_pos hj n
  omega
def spWs : Sp := fun vs H Q _ => ∃ (p : Addr) (w : Nat) (z : Nat → Int), vs = [.ref p] ∧ H p = some (.lst (iV w z)) ∧ w ≤ 1000 ∧
  ∀ (r : Addr) (z' : Nat → Int) (g : Int) (H' : Hp), Same H H' → H' r = some (.lst (iV w z')) → 0 < g → (∀ j, j < w → z j = g * z' j) → ((∀ j, j < w → z' j = 0) ∨ Prm w z') → Q (.ref r) H'
def spFrd : Sp := fun vs H Q _ => ∃ (p r : Addr) (w q b : Nat) (u l : Nat → Int), vs = [.ref p, .ref r, .int (q : Int)] ∧ H p = some (.lst (iV w u)) ∧ H r = some (.lst (iV w l)) ∧ w ≤ 1000 ∧ q < w ∧ 0 < l q ∧ Prm w u ∧ (∀ j, j < w → Bt b (u j)) ∧ (∀ j, j < w → Bt b (l j)) ∧ b ≤ 20000000 ∧
  ∀ (r' : Addr) (u' : Nat → Int) (m : Rat) (H' : Hp), Same H H' → H' r' = some (.lst (iV w u')) → 0 < m → (∀ x, x < w → (u' x : Rat) = m * ((u x : Rat) - (u q : Rat) / (l q : Rat) * (l x : Rat))) → ((∀ x, x < w → u' x = 0) ∨ Prm w u') → Q (.ref r') H'
theorem freed_eq {u l uq lq keep take s g z : Rat} (s0 : s ≠ 0) (k0 : keep ≠ 0) (g0 : g ≠ 0) (e1 : keep * s = lq) (e2 : take * s = uq) (e3 : keep * u - take * l = g * z) : z = keep / g * (u - uq / lq * l) := by
  subst e1 e2
  have h1 : take * s / (keep * s) = take / keep := by
    have i1 : s * s⁻¹ = 1 := Rat.mul_inv_cancel _ s0
    have i2 : keep * keep⁻¹ = 1 := Rat.mul_inv_cancel _ k0
    have i3 : (keep * s) * (keep * s)⁻¹ = 1 := Rat.mul_inv_cancel _ (DT.rmul_ne k0 s0)
    rw [Rat.div_def, Rat.div_def]
    grind
  rw [h1, Rat.div_def, Rat.div_def]
  have i2 : keep * keep⁻¹ = 1 := Rat.mul_inv_cancel _ k0
  have i4 : g * g⁻¹ = 1 := Rat.mul_inv_cancel _ g0
  grind
section
variable {P : Program} {w : World} {K : PySem.W.Frag} {mg : Str → Option Value} {base : Heap}
theorem ok_lp {f : Addr} {fd : FuncData} (F : Fun K "leading_place" "leading_place" sLp f fd) (me : mg "enumerate" = none) : FnOk P w K mg base CX0 1 f fd ["row"] spLp := by
  refine F.ok scLp (fun vs H Q E h => ?_) (fun cdv A outer s H vs Q E hr h => ?_)
  · obtain ⟨p, w, z, rfl, _⟩ := h
    rfl
  · obtain ⟨p, ww, z, rfl, hp, k1, k2⟩ := h
    refine ⟨_, pss_cons (ps_for PassesOwn.never rfl (pi_enum (by rfl) me (pa_cons (pv 0) pa_nil)) (pg_tup rfl (pgs_cons (pg_name (i := 1) scLp.nd rfl (.inl rfl)) (pgs_cons (pg_name (i := 2) scLp.nd rfl (.inl rfl)) pgs_nil)))
        (pss_one (ps_if (pt_truth (pv 2) (by intro _; rfl))
          (pss_one (ps_ret (pv 1)))
          pss_nil)))
      (pss_one (ps_ret pe_non)), ?_⟩
    refine ⟨_, rfl, p, _, rfl, SqL.of hp, for_it (walk_enum (K := K) (a := p) (xs := iV ww z)) (fun i σ H' => ∃ o1 o2, σ = [some (.ref p), o1, o2] ∧ Same H H' ∧ ∀ j, j < i → z j = 0)
        ⟨none, none, rfl, Same.refl _, fun j hj => absurd hj (by omega)⟩ (fun i σ H' _ h => by obtain ⟨_, _, _, s, _⟩ := h; exact SqL.of (s _ _ hp)) ?_ ?_⟩
    · rintro i v σ H1 H2 hi ⟨o1, o2, rfl, s1, zz⟩ ⟨T', x, x', rfl, nT, rfl, h1, h2⟩
      obtain rfl := Option.some.inj h1
      obtain ⟨hi', rfl⟩ := iV_lt h2
      have sT : Same H1 (upd H1 T' (.tup [.int (i : Nat), .int (z i)])) := Same.upd nT
      refine ⟨T', _, rfl, SqT.of upd_same, rfl, _, _, rfl, _, _, rfl, rfl, ?_⟩
      refine ⟨_, rfl, _, rfl, ?_⟩
      by_cases z0 : z i = 0
      · rw [show ((z i != 0) : Bool) = false by rw [z0]; rfl]
        refine iteF ⟨_, _, rfl, s1.trans sT, fun j hj => ?_⟩
        by_cases e : j = i
        · rw [e]; exact z0
        · exact zz j (by omega)
      · rw [show ((z i != 0) : Bool) = true from bne_iff_ne.mpr z0]
        exact iteT ⟨_, rfl, k1 i _ hi' z0 zz (s1.trans sT)⟩
    · rintro σ H1 ⟨o1, o2, rfl, s1, zz⟩
      rw [iV_len] at zz
      exact k2 H1 zz s1
theorem ok_ws (B : PL.Big P base) {f fS C : Addr} {fd dS : FuncData} (F : Fun K "_without_shared" "_without_shared" sWs f fd) (cShf : CalN P w K mg base "shared_factor" 1 ["row"] (spShf C) fS dS) : FnOk P w K mg base CX0 33 f fd ["row"] spWs := by
  refine F.ok scWs (fun vs H Q E h => ?_) (fun cdv A outer s H vs Q E hr32 h => ?_)
  · obtain ⟨p, w, z, rfl, _⟩ := h
    rfl
  · obtain ⟨p, ww, z, rfl, hp, hw, k⟩ := h
    have hr1 : Room 1 _ := hr32.mono (by decide)
    refine ⟨_, pss_cons (ps_set (i := 1) scWs.nd rfl (.inr rfl) (pe_call cShf.G hr1 rfl cShf.m cShf.kp cShf.b .nil pass0 (pa_cons (pv 0) pa_nil)))
      (pss_one (ps_ret (pe_ifExp (pt_cmpR op_gt (pv 1) pe_int (nomark _)) (pe_lc (own := [("number", 2)]) (g := gName 2) (tt := tYes) rfl scWs.nd (pi_list (pv 0)) (blkOk_by (N := ["row", "shared", "number"]) (sc := (defScope sWs)) (by decide +kernel)) (fun _ _ _ _ _ => (pg_name (i := 2) scWs.nd rfl (.inl rfl))) (fun _ _ _ _ _ => pts_nil) (fun _ _ _ _ _ => (pe_op (PL.op_fdivP B hr32 ⟨_, _, rfl, rfl, rfl, rfl, rfl⟩) (pv 2) (pv 1)))) (pv 0)))), ?_⟩
    refine ⟨_, rfl, Emp, p, ww, z, rfl, at_ints hp id, ?_⟩
    have dv : ∀ j, j < ww → ((gf z ww : Nat) : Int) ∣ z j := fun j hj => gf_dvd hj
    have up : ∀ d : Int, (∀ j, j < ww → d ∣ z j) → d ∣ ((gf z ww : Nat) : Int) := fun d h => gf_up h
    have zr : gf z ww = 0 → ∀ j, j < ww → z j = 0 := gf_zero
    generalize gf z ww = g at *
    refine ⟨_, rfl, _, _, rfl, rfl, _, rfl, ?_⟩
    refine ite2 (fun z1 => ?_) (fun z1 => ?_)
    · have g1 : 1 < g := by have := of_decide_eq_true z1; omega
      have gne : (g : Int) ≠ 0 := by omega
      refine ⟨_, rfl, p, rfl, ⟨_, SqL.of hp⟩, fun D nD => ?_⟩
      refine lc_it (walk_list (K := K) (a := p) (xs := iV ww z)) (fun i H' => H' D = some (.lst (iV i fun j => (z j).fdiv (g : Int))) ∧ Same H H') ⟨upd_same, Same.upd nD⟩ (fun i H' _ h => SqL.of (h.2 _ _ hp)) ?_ ?_
      · rintro i x H2 H3 hi ⟨hD, s2⟩ ⟨rfl, hx2⟩
        obtain ⟨hi', rfl⟩ := iV_lt hx2
        refine ⟨rfl, _, rfl, _, rfl, _, _, rfl, rfl, gne, _, hD, ?_, ?_, fun c o hc => ?_⟩
        · rw [iV_len]
          exact small1000 (by omega)
        · rw [upd_same, iV_succ]
        · rw [upd_ne (ne_of_none hc nD)]
          exact s2 _ _ hc
      · rintro H2 ⟨hD, s2⟩
        rw [iV_len] at hD
        refine k D _ (g : Int) H2 s2 hD (by omega) (fun j hj => ?_) (.inr fun d hd => ?_)
        · have := RT.fdiv_of_dvd gne (dv j hj)
          rw [Int.mul_comm]; exact this.symm
        · have h1 : d * g ∣ (g : Int) := up _ fun j hj => by
            have e := RT.fdiv_of_dvd gne (dv j hj)
            rw [← e]
            exact Int.mul_dvd_mul_right _ (hd j hj)
          obtain ⟨y, hy⟩ := h1
          refine ⟨y, ?_⟩
          have : (g : Int) * 1 = g * (d * y) := by
            rw [Int.mul_one]
            calc (g : Int) = d * g * y := hy
              _ = g * (d * y) := by simp only [Int.mul_comm, Int.mul_left_comm, Int.mul_assoc]
          exact Int.eq_of_mul_eq_mul_left gne this
    · have g1 : g ≤ 1 := by have : ¬ (1 < (g : Int)) := fun h => z1 (decide_eq_true h); omega
      refine ⟨_, rfl, k p z 1 H (Same.refl _) hp (by decide) (fun j _ => (Int.one_mul _).symm) ?_⟩
      by_cases g0 : g = 0
      · exact .inl (zr g0)
      · exact .inr fun d hd => by
          have := up d hd
          rw [show g = 1 by omega] at this
          exact this
theorem ok_frd (B : PL.Big P base) {f fS C : Addr} {fd dS : FuncData} (F : Fun K "_freed" "_freed" sFrd f fd) (TP : TxtP mg) (TR : TxtR K mg C) (cWs : CalN P w K mg base "_without_shared" 33 ["row"] spWs fS dS) : FnOk P w K mg base CX0 34 f fd ["row", "other", "place"] spFrd := by
  refine F.ok scFrd (fun vs H Q E h => ?_) (fun cdv A outer s H vs Q E hr h => ?_)
  · obtain ⟨p, r, w, q, b, u, l, rfl, _⟩ := h
    rfl
  · obtain ⟨p, r, ww, q, b, u, l, rfl, hp, hr', hw, hq, lq, pu, bu, bl, hb, k⟩ := h
    have hr33 : Room 33 _ := hr
    have hr32 : Room 32 _ := hr.mono (by decide)
    have hr1 : Room 1 _ := hr.mono (by decide)
    refine ⟨_, pss_cons (ps_if (pt_cmpR op_eq (pe_ix ix_list (pv 0) (pv 2) (fun _ _ => rfl)) pe_int (nomark _))
        (pss_one (ps_ret (pv 0)))
        pss_nil)
      (pss_cons (ps_set (i := 3) scFrd.nd rfl (.inl rfl) (pe_callBfun cr_gcd (by rfl) TR.gcd (pa_cons (pe_ix ix_list (pv 0) (pv 2) (fun _ _ => rfl)) (pa_cons (pe_ix ix_list (pv 1) (pv 2) (fun _ _ => rfl)) pa_nil))))
      (pss_cons (ps_asg (pe_tup (pa_cons (pe_op (PL.op_fdivP B hr32 ⟨_, _, rfl, rfl, rfl, rfl, rfl⟩) (pe_ix ix_list (pv 1) (pv 2) (fun _ _ => rfl)) (pv 3)) (pa_cons (pe_op (PL.op_fdivP B hr32 ⟨_, _, rfl, rfl, rfl, rfl, rfl⟩) (pe_ix ix_list (pv 0) (pv 2) (fun _ _ => rfl)) (pv 3)) pa_nil))) (pg_tup rfl (pgs_cons (pg_name (i := 4) scFrd.nd rfl (.inr rfl)) (pgs_cons (pg_name (i := 5) scFrd.nd rfl (.inr rfl)) pgs_nil))))
      (pss_one (ps_ret (pe_call cWs.G hr33 rfl cWs.m cWs.kp cWs.b .nil pass0 (pa_cons (pe_lc (own := [("mine", 6), ("its", 7)]) (g := gTup K 2 (gCons (gName 6) (gCons (gName 7) gNil))) (tt := tYes) rfl scFrd.nd (ZM.pi_zipM (by rfl) TP.zip (pa_cons (pv 0) (pa_cons (pv 1) pa_nil))) (blkOk_by (N := ["row", "other", "place", "shared", "keep", "take", "mine", "its"]) (sc := (defScope sFrd)) (by decide +kernel)) (fun _ _ _ _ _ => (pg_tup rfl (pgs_cons (pg_name (i := 6) scFrd.nd rfl (.inl rfl)) (pgs_cons (pg_name (i := 7) scFrd.nd rfl (.inl rfl)) pgs_nil)))) (fun _ _ _ _ _ => pts_nil) (fun _ _ _ _ _ => (pe_op op_sub (pe_op RQ.op_mulH (pv 4) (pv 6)) (pe_op RQ.op_mulH (pv 5) (pv 7))))) pa_nil)))))), ?_⟩
    refine ⟨_, rfl, _, rfl, p, _, _, _, rfl, rfl, SqL.of hp, at_of rfl (iV_get hq), rfl, _, rfl, ite2 (fun z => ?_) (fun z => ?_)⟩
    · have z0 : u q = 0 := by
        have := of_decide_eq_true z
        injection this
      refine ⟨_, rfl, k p u 1 H (Same.refl _) hp (by decide) (fun x _ => ?_) (.inr pu)⟩
      rw [z0, Rat.intCast_zero, Rat.div_def, Rat.zero_mul, Rat.zero_mul, Rat.sub_eq_add_neg, Rat.neg_zero, Rat.add_zero, Rat.one_mul]
    · have z0 : u q ≠ 0 := fun e => z (by rw [e]; rfl)
      refine ⟨_, rfl, _, rfl, p, _, _, _, rfl, rfl, SqL.of hp, at_of rfl (iV_get hq), _, rfl, _, rfl, r, _, _, _, rfl, rfl, SqL.of hr', at_of rfl (iV_get hq), _, _, rfl, ?_⟩
      have g0 : 0 < Nat.gcd (u q).natAbs (l q).natAbs := Nat.gcd_pos_of_pos_left _ (by omega)
      have d1 : ((Nat.gcd (u q).natAbs (l q).natAbs : Nat) : Int) ∣ u q := Int.ofNat_dvd_left.mpr (Nat.gcd_dvd_left _ _)
      have d2 : ((Nat.gcd (u q).natAbs (l q).natAbs : Nat) : Int) ∣ l q := Int.ofNat_dvd_left.mpr (Nat.gcd_dvd_right _ _)
      generalize Nat.gcd (u q).natAbs (l q).natAbs = g at *
      have gne : (g : Int) ≠ 0 := by omega
      have f1 := RT.fdiv_of_dvd gne d1
      have f2 := RT.fdiv_of_dvd gne d2
      have b1 : Bt b ((u q).fdiv (g : Int)) := quot_bt d1 gne (bu q hq)
      have b2 : Bt b ((l q).fdiv (g : Int)) := quot_bt d2 gne (bl q hq)
      have kp : 0 < (l q).fdiv (g : Int) := by
        rcases Int.lt_trichotomy ((l q).fdiv (g : Int)) 0 with h | h | h
        · have := Int.mul_neg_of_neg_of_pos h (show (0 : Int) < g by omega)
          omega
        · rw [h] at f2; omega
        · exact h
      refine ⟨_, rfl, _, rfl, r, _, _, _, rfl, rfl, SqL.of hr', at_of rfl (iV_get hq), _, rfl, _, _, rfl, rfl, gne, _, rfl, _, rfl, p, _, _, _, rfl, rfl, SqL.of hp, at_of rfl (iV_get hq), _, rfl, _, _, rfl, rfl, gne, (by show 2 ≤ sizeLine; decide), fun T0 nT0 => ⟨T0, _, rfl, SqT.of upd_same, rfl, _, _, rfl, _, _, rfl, rfl, ?_⟩⟩
      dsimp only
      generalize (u q).fdiv (g : Int) = take at *
      generalize (l q).fdiv (g : Int) = keep at *
      have s0 : Same H (upd H T0 (.tup [.int keep, .int take])) := Same.upd nT0
      generalize upd H T0 (.tup [.int keep, .int take]) = H0 at *
      have sq : ∀ {H' : Hp} {a : Addr} {z : Nat → Int}, H' a = some (.lst (iV ww z)) → ZM.SqB false K H' a (iV ww z) := fun h => .inr ⟨rfl, SqL.of h⟩
      refine ⟨_, rfl, _, rfl, false, false, p, r, _, _, rfl, sq (s0 _ _ hp), sq (s0 _ _ hr'), fun D nD => ?_⟩
      refine lc_it (ZM.walk_zipM (K := K) (k := false) (l := false) (a := p) (b := r) (xs := iV ww u) (ys := iV ww l) (n := ww) (by rw [iV_len, iV_len, Nat.min_self])) (fun j H' => H' D = some (.lst (iV j fun j => keep * u j - take * l j)) ∧ Same H0 H') ⟨upd_same, Same.upd nD⟩ (fun j H' _ h => ⟨sq (h.2 _ _ (s0 _ _ hp)), sq (h.2 _ _ (s0 _ _ hr'))⟩) ?_ ?_
      · rintro j v H3 H4 hj ⟨hG, s3⟩ ⟨T2, x, x', rfl, nT2, rfl, h1, h2⟩
        obtain ⟨_, rfl⟩ := iV_lt h1
        obtain ⟨_, rfl⟩ := iV_lt h2
        have sT : Same H3 (upd H3 T2 (.tup [.int (u j), .int (l j)])) := Same.upd nT2
        refine ⟨T2, _, rfl, SqT.of upd_same, rfl, _, _, rfl, _, _, rfl, rfl, rfl, ?_⟩
        refine ⟨_, rfl, _, rfl, _, _, rfl, rfl, ⟨b2.hg (by omega), (bu j hj).hg (by omega)⟩, _, rfl, _, rfl, _, _, rfl, rfl, ⟨b1.hg (by omega), (bl j hj).hg (by omega)⟩, _, _, rfl, rfl, _, sT _ _ hG, ?_, ?_, ?_⟩
        · rw [iV_len]; exact small1000 (by omega)
        · rw [upd_same, iV_succ]
        · intro b o e
          rw [upd_ne (ne_of_none e nD)]
          exact sT _ _ (s3 _ _ e)
      · rintro H2 ⟨hG, s2⟩
        refine ⟨D, ww, _, rfl, hG, hw, fun r' z' g' H5 s5 h5 g5 e5 p5 => ?_⟩
        have sne : (((g : Nat) : Int) : Rat) ≠ 0 := DT.ic gne
        have kne : (keep : Rat) ≠ 0 := DT.ic (by omega)
        have gne' : (g' : Rat) ≠ 0 := DT.ic (by omega)
        refine k r' z' ((keep : Rat) / (g' : Rat)) H5 ((s0.trans s2).trans s5) h5 ?_ (fun x hx => ?_) p5
        · rw [Rat.div_def]
          exact Rat.mul_pos (Rat.intCast_pos.mpr kp) (Rat.inv_pos.mpr (Rat.intCast_pos.mpr g5))
        · refine freed_eq (take := take) sne kne gne' ?_ ?_ ?_
          · rw [← f2, Rat.intCast_mul]
          · rw [← f1, Rat.intCast_mul]
          · rw [← Rat.intCast_mul, ← Rat.intCast_mul, ← Rat.intCast_mul, ← Rat.intCast_sub, e5 x hx]
end
end RX

set_option Elab.async false
set_option maxRecDepth 100000
set_option exponentiation.threshold 100000
namespace RX
open PySem L2 VA VM
open RQ (Hg Bt)
/-! ### the space of rows: what is left of a row -/
abbrev sRest : Stmt := inClass (topS 30) 1
theorem scRest : FnScope ["self", "row", "lead", "kept", "needed", "common", "left", "part", "number", "mine", "its"] ["self", "row"] (defScope sRest) := ⟨rfl, rfl, rfl, by decide +kernel, rfl, by decide +kernel, by decide +kernel⟩
def tTruK (K : PySem.W.Frag) (ta : TE) : TT := fun σ H Q => ta σ H fun x H' => ∃ k, TruV K x H' k ∧ Q k H'
def kvl (k : Nat) (ps : Nat → Nat) (ra : Nat → Addr) : List (Key × V) := (List.range k).map fun i => (Sum.inl ((ps i : Nat) : Int), V.ref (ra i))
theorem kvl_len {k : Nat} {ps : Nat → Nat} {ra : Nat → Addr} : (kvl k ps ra).length = k := by unfold kvl; rw [List.length_map, List.length_range]
theorem kvl_get {k i : Nat} {ps : Nat → Nat} {ra : Nat → Addr} (h : i < k) : (kvl k ps ra)[i]? = some (Sum.inl ((ps i : Nat) : Int), V.ref (ra i)) := by
  unfold kvl
  rw [List.getElem?_map, List.getElem?_range h]
  rfl
structure SpcAt (CS : Addr) (H : Hp) (p d : Addr) (n k : Nat) (ps : Nat → Nat) (ra : Nat → Addr) (L : Nat → Nat → Int) : Prop where
  hp : ∃ dx, H p = some (.ins CS dx [("_by_lead", .ref d)])
  hd : H d = some (.dK (kvl k ps ra))
  rows : ∀ i, i < k → H (ra i) = some (.lst (iV n (L i)))
theorem SpcAt.same {CS : Addr} {H H' : Hp} {p d : Addr} {n k : Nat} {ps : Nat → Nat} {ra : Nat → Addr} {L : Nat → Nat → Int} (a : SpcAt CS H p d n k ps ra L) (s : Same H H') : SpcAt CS H' p d n k ps ra L :=
  ⟨let ⟨dx, h⟩ := a.hp; ⟨dx, s _ _ h⟩, s _ _ a.hd, fun i hi => s _ _ (a.rows i hi)⟩
structure TxtS (K : PySem.W.Frag) (mg : Str → Option Value) (CS : Addr) : Prop where
  mgS : mg "Space" = some (.ref CS)
  cl : Cls K CS
  nB : NoAttr K CS "_by_lead"
/-- the sizes of what is kept -/
structure SzL (n k : Nat) (ps : Nat → Nat) (L : Nat → Nat → Int) (D : Int) : Prop where
  d0 : D ≠ 0
  bd : Bt 12999 D
  lt : ∀ i, i < k → ps i < n
  pos : ∀ i, i < k → 0 < L i (ps i)
  dv : ∀ i, i < k → L i (ps i) ∣ D
  bl : ∀ i, i < k → ∀ x, x < n → Bt 27000 (L i x)
theorem lt_pw {x a b : Nat} (h : x < 2 ^ a) (l : a ≤ b) : x < 2 ^ b := Nat.lt_of_lt_of_le h (Nat.pow_le_pow_right (by decide) l)
theorem szl {n k B : Nat} {ps : Nat → Nat} {L a : Nat → Nat → Int} (b : DT.Bas n k B ps L a) (hB : 1 ≤ B) (hk : k ≤ 1000) (h : (k * B) ^ k < 2 ^ 12999) : ∃ D, SzL n k ps L D := by
  obtain ⟨D, d0, bD, e⟩ := b.size hB
  refine ⟨D, d0, Nat.lt_of_le_of_lt bD h, b.lt, b.pos, fun i hi => (e i hi).1, fun i hi x hx => Nat.lt_of_le_of_lt ((e i hi).2 x hx) ?_⟩
  have k1 : k < 2 ^ 10 := Nat.lt_of_le_of_lt hk (by decide)
  have b1 : B < 2 ^ 12999 := by
    refine Nat.lt_of_le_of_lt ?_ h
    have k0 : 1 ≤ k := by omega
    calc B ≤ k * B := Nat.le_mul_of_pos_left _ (by omega)
      _ = (k * B) ^ 1 := (Nat.pow_one _).symm
      _ ≤ (k * B) ^ k := Nat.pow_le_pow_right (Nat.mul_pos (by omega) (by omega)) k0
  have h1 := Nat.mul_lt_mul'' h b1
  have h2 := Nat.mul_lt_mul'' k1 h1
  rw [← Nat.pow_add, ← Nat.pow_add] at h2
  exact lt_pw h2 (by decide)
/-- sums over a list of places -/
def sl (ix : List Nat) (f : Nat → Int) : Int := ix.foldl (fun a i => a + f i) 0
theorem sl_snoc (ix : List Nat) (i : Nat) (f : Nat → Int) : sl (ix ++ [i]) f = sl ix f + f i := by unfold sl; rw [List.foldl_append]; rfl
def lc (g : Nat → Int) (ix : List Nat) : Int := ix.foldl (fun c i => RT.lcmI c (g i)) 1
theorem lc_snoc (g : Nat → Int) (ix : List Nat) (i : Nat) : lc g (ix ++ [i]) = RT.lcmI (lc g ix) (g i) := by unfold lc; rw [List.foldl_append]; rfl
theorem take_snoc {ix : List Nat} {j : Nat} (h : j < ix.length) : ix.take (j + 1) = ix.take j ++ [ix[j]] := by
  rw [List.take_add_one, List.getElem?_eq_getElem h]
  rfl
theorem lcm_dvd {x y d : Int} (h1 : x ∣ d) (h2 : y ∣ d) : RT.lcmI x y ∣ d := by
  unfold RT.lcmI
  refine Int.natAbs_dvd_natAbs.mp ?_
  rw [Int.natAbs_natCast]
  exact Nat.lcm_dvd (Int.natAbs_dvd_natAbs.mpr h1) (Int.natAbs_dvd_natAbs.mpr h2)
theorem lc_take {g : Nat → Int} {ix : List Nat} {D : Int} (h : ∀ i, i ∈ ix → 0 < g i ∧ g i ∣ D) : ∀ {j : Nat}, j ≤ ix.length → 0 < lc g (ix.take j) ∧ lc g (ix.take j) ∣ D ∧ ∀ i, i ∈ ix.take j → g i ∣ lc g (ix.take j)
  | 0, _ => ⟨by show (0 : Int) < 1; decide, by show (1 : Int) ∣ D; exact Int.one_dvd _, fun i hi => by rw [List.take_zero] at hi; cases hi⟩
  | j + 1, hj => by
    obtain ⟨a, b, c⟩ := lc_take (j := j) h (by omega)
    have m := h ix[j] (List.getElem_mem _)
    rw [take_snoc hj, lc_snoc]
    refine ⟨RT.lcm_pos a m.1, lcm_dvd b m.2, fun i hi => ?_⟩
    rcases List.mem_append.mp hi with hi | hi
    · exact Int.dvd_trans (c i hi) (RT.lcm_l _ _)
    · rw [List.mem_singleton.mp hi]
      exact RT.lcm_r _ _
theorem sl_filter {c : Nat → Bool} {f : Nat → Int} : ∀ {k : Nat}, (∀ i, i < k → c i = false → f i = 0) → ((sl ((List.range k).filter c) f : Int) : Rat) = DT.sm k fun i => (f i : Rat)
  | 0, _ => rfl
  | k + 1, h => by
    have ih := sl_filter (k := k) (c := c) (f := f) fun i hi => h i (by omega)
    rw [List.range_succ, List.filter_append]
    show _ = DT.sm k _ + (f k : Rat)
    rw [← ih]
    cases e : c k with
    | true =>
      rw [show [k].filter c = [k] by simp [e], sl_snoc, Rat.intCast_add]
    | false =>
      rw [show [k].filter c = [] by simp [e], List.append_nil, h k (by omega) e, Rat.intCast_zero, Rat.add_zero]
theorem sl_bt {f : Nat → Int} {ix : List Nat} {b : Nat} (h : ∀ i, i ∈ ix → Bt b (f i)) : ∀ {j : Nat}, j ≤ ix.length → Bt (b + j) (sl (ix.take j) f)
  | 0, _ => VM.bt0 _
  | j + 1, hj => by
    have a := sl_bt (j := j) h (by omega)
    rw [take_snoc hj, sl_snoc]
    exact a.add ((h ix[j] (List.getElem_mem _)).up (by omega))
theorem rest_math {n k : Nat} {ps : Nat → Nat} {L : Nat → Nat → Int} {z : Nat → Int} {c : Int} {x : Nat} (pos : ∀ i, i < k → 0 < L i (ps i)) (h : ∀ i, i < k → z (ps i) ≠ 0 → L i (ps i) ∣ c) :
    ((c * z x - sl ((List.range k).filter fun i => z (ps i) != 0) (fun i => z (ps i) * c.fdiv (L i (ps i)) * L i x) : Int) : Rat) = (c : Rat) * DT.rs k ps L (fun x => (z x : Rat)) x := by
  rw [Rat.intCast_sub, sl_filter fun i hi e => ?_, Rat.intCast_mul]
  · unfold DT.rs
    have e : DT.sm k (fun i => ((z (ps i) * c.fdiv (L i (ps i)) * L i x : Int) : Rat)) = DT.sm k (fun t => (c : Rat) * ((z (ps t) : Rat) / (L t (ps t) : Rat) * (L t x : Rat))) := DT.sm_congr fun i hi => by
      rw [Rat.intCast_mul, Rat.intCast_mul]
      by_cases z0 : z (ps i) = 0
      · rw [z0, Rat.intCast_zero, Rat.div_def, Rat.zero_mul, Rat.zero_mul, Rat.zero_mul, Rat.zero_mul, Rat.mul_zero]
      · have l0 : L i (ps i) ≠ 0 := by have := pos i hi; omega
        have f := RT.fdiv_of_dvd l0 (h i hi z0)
        have lr := DT.ic l0
        have e2 : (c : Rat) = ((c.fdiv (L i (ps i)) : Int) : Rat) * (L i (ps i) : Rat) := by rw [← Rat.intCast_mul, f]
        have inv : (L i (ps i) : Rat) * (L i (ps i) : Rat)⁻¹ = 1 := Rat.mul_inv_cancel _ lr
        generalize ((c.fdiv (L i (ps i)) : Int) : Rat) = y at *
        rw [e2, Rat.div_def]
        generalize (L i (ps i) : Rat) = l at *
        generalize (L i x : Rat) = v at *
        generalize (z (ps i) : Rat) = u at *
        grind
    rw [e, DT.sm_mul]
    grind
  · have : z (ps i) = 0 := by simpa using e
    rw [this, Int.zero_mul, Int.zero_mul]
theorem filt_mem {c : Nat → Bool} {j i : Nat} (h : i ∈ (List.range j).filter c) : i < j ∧ c i = true := by
  obtain ⟨a, b⟩ := List.mem_filter.mp h
  exact ⟨List.mem_range.mp a, b⟩
theorem filt_t {c : Nat → Bool} {j : Nat} (h : c j = true) : (List.range (j + 1)).filter c = (List.range j).filter c ++ [j] := by
  rw [List.range_succ, List.filter_append, show [j].filter c = [j] by simp [h]]
theorem filt_f {c : Nat → Bool} {j : Nat} (h : c j = false) : (List.range (j + 1)).filter c = (List.range j).filter c := by
  rw [List.range_succ, List.filter_append, show [j].filter c = [] by simp [h], List.append_nil]
theorem same_unlock {H G : Hp} {d : Addr} {od : Obj} {u : HO} (hd : H d = some u) (s : Same (upd H d (.frz od u)) G) : Same H (upd G d u) := fun b o e => by
  by_cases h : b = d
  · subst h
    rw [hd] at e
    rw [upd_same, Option.some.inj e]
  · rw [upd_ne h]
    exact s _ _ (by rw [upd_ne h]; exact e)
def spRest (CS : Addr) : Sp := fun vs H Q _ => ∃ (p d r : Addr) (n k b : Nat) (ps : Nat → Nat) (ra : Nat → Addr) (L : Nat → Nat → Int) (D : Int) (z : Nat → Int), vs = [.ref p, .ref r] ∧ SpcAt CS H p d n k ps ra L ∧ H r = some (.lst (iV n z)) ∧ n ≤ 1000 ∧ k ≤ 1000 ∧ SzL n k ps L D ∧ (∀ x, x < n → Bt b (z x)) ∧ b ≤ 20000000 ∧
  ∀ (r' : Addr) (z' : Nat → Int) (s : Rat) (H' : Hp), Same H H' → H' r' = some (.lst (iV n z')) → 0 < s → (∀ x, x < n → (z' x : Rat) = s * DT.rs k ps L (fun x => (z x : Rat)) x) → ((∀ x, x < n → z' x = 0) ∨ Prm n z') → (∀ x, x < n → Bt (b + 50000) (z' x)) → Q (.ref r') H'
section
variable {P : Program} {w : World} {K : PySem.W.Frag} {mg : Str → Option Value} {base : Heap}
theorem ok_rest (B : PL.Big P base) {f fS CS : Addr} {fd dS : FuncData} (F : Fun K "rest" "Space.rest" sRest f fd) (TP : TxtP mg) (TS : TxtS K mg CS) (cWs : CalN P w K mg base "_without_shared" 33 ["row"] spWs fS dS) : FnOk P w K mg base CX0 34 f fd ["self", "row"] (spRest CS) := by
  refine F.ok scRest (fun vs H Q E h => ?_) (fun cdv A outer s H vs Q E hr h => ?_)
  · obtain ⟨p, d, r, n, k, b, ps, ra, L, D, z, rfl, _⟩ := h
    rfl
  · obtain ⟨p, d, r, n, k, b, ps, ra, L, D0, z, rfl, sp, hr0, n1, k1, sz, bz, hb, kk⟩ := h
    have hr33 : Room 33 _ := hr
    have hr32 : Room 32 _ := hr.mono (by decide)
    refine ⟨_, pss_cons (ps_lock (ps_setLc (i := 4) (own := [("lead", 2), ("kept", 3)]) (g := gTup K 2 (gCons (gName 2) (gCons (gName 3) gNil))) rfl scRest.nd rfl rfl (sw_true rfl rfl rfl (by decide +kernel)) (pi_items (pe_fld (pv 0) rfl)) (blkOk_by (N := ["self", "row", "lead", "kept", "needed", "common", "left", "part", "number", "mine", "its"]) (sc := (defScope sRest)) (by decide +kernel)) (fun _ _ _ _ _ => (pg_tup rfl (pgs_cons (pg_name (i := 2) scRest.nd rfl (.inl rfl)) (pgs_cons (pg_name (i := 3) scRest.nd rfl (.inl rfl)) pgs_nil)))) (fun _ _ _ _ _ => pts_one (show PT _ _ (tTruK K _) from pt_truth (pe_ix (show IxR _ (rIxL K) from ix_list) (pv 1) (pv 2) (fun _ _ => rfl)) (by intro _; rfl))) (fun _ _ _ _ _ => (pe_tup (pa_cons (pv 2) (pa_cons (pv 3) pa_nil))))))
      (pss_cons (ps_set (i := 5) scRest.nd rfl (.inr rfl) pe_int)
      (pss_cons (ps_for PassesOwn.never rfl (pi_list (pv 4)) (pg_tup rfl (pgs_cons (pg_name (i := 2) scRest.nd rfl (.inl rfl)) (pgs_cons (pg_name (i := 3) scRest.nd rfl (.inl rfl)) pgs_nil)))
        (pss_one (ps_set (i := 5) scRest.nd rfl (.inr rfl) (pe_callBfun cr_lcm (by rfl) TP.lcm (pa_cons (pv 5) (pa_cons (pe_ix ix_list (pv 3) (pv 2) (fun _ _ => rfl)) pa_nil))))))
      (pss_cons (ps_setLc (i := 6) (own := [("number", 8)]) (g := gName 8) (tt := tYes) rfl scRest.nd rfl rfl (sw_true rfl rfl rfl (by decide +kernel)) (pi_list (pv 1)) (blkOk_by (N := ["self", "row", "lead", "kept", "needed", "common", "left", "part", "number", "mine", "its"]) (sc := (defScope sRest)) (by decide +kernel)) (fun _ _ _ _ _ => (pg_name (i := 8) scRest.nd rfl (.inl rfl))) (fun _ _ _ _ _ => pts_nil) (fun _ _ _ _ _ => (pe_op RQ.op_mulH (pv 5) (pv 8))))
      (pss_cons (ps_for PassesOwn.never rfl (pi_list (pv 4)) (pg_tup rfl (pgs_cons (pg_name (i := 2) scRest.nd rfl (.inl rfl)) (pgs_cons (pg_name (i := 3) scRest.nd rfl (.inl rfl)) pgs_nil)))
        (pss_cons (ps_set (i := 7) scRest.nd rfl (.inr rfl) (pe_op RQ.op_mulH (pe_ix ix_list (pv 1) (pv 2) (fun _ _ => rfl)) (pe_op (PL.op_fdivP B hr32 ⟨_, _, rfl, rfl, rfl, rfl, rfl⟩) (pv 5) (pe_ix ix_list (pv 3) (pv 2) (fun _ _ => rfl)))))
        (pss_one (ps_setLc (i := 6) (own := [("mine", 9), ("its", 10)]) (g := gTup K 2 (gCons (gName 9) (gCons (gName 10) gNil))) (tt := tYes) rfl scRest.nd rfl rfl (sw_true rfl rfl rfl (by decide +kernel)) (ZM.pi_zipM (by rfl) TP.zip (pa_cons (pv 6) (pa_cons (pv 3) pa_nil))) (blkOk_by (N := ["self", "row", "lead", "kept", "needed", "common", "left", "part", "number", "mine", "its"]) (sc := (defScope sRest)) (by decide +kernel)) (fun _ _ _ _ _ => (pg_tup rfl (pgs_cons (pg_name (i := 9) scRest.nd rfl (.inl rfl)) (pgs_cons (pg_name (i := 10) scRest.nd rfl (.inl rfl)) pgs_nil)))) (fun _ _ _ _ _ => pts_nil) (fun _ _ _ _ _ => (pe_op op_sub (pv 9) (pe_op RQ.op_mulH (pv 7) (pv 10))))))))
      (pss_one (ps_ret (pe_call cWs.G hr33 rfl cWs.m cWs.kp cWs.b .nil pass0 (pa_cons (pv 6) pa_nil)))))))), ?_⟩
    obtain ⟨dx, hp⟩ := sp.hp
    have hd := sp.hd
    have pd : p ≠ d := fun e => by rw [e, hd] at hp; cases hp
    have rd : r ≠ d := fun e => by rw [e, hd] at hr0; cases hr0
    refine ⟨d, _, hd, trivial, fun od => ?_⟩
    have lk : ∀ {b : Addr} {o : HO}, b ≠ d → H b = some o → (upd H d (.frz od (.dK (kvl k ps ra)))) b = some o := fun h e => by rw [upd_ne h]; exact e
    have hd1 : (upd H d (.frz od (.dK (kvl k ps ra)))) d = some (.frz od (.dK (kvl k ps ra))) := upd_same
    have un : ∀ {G : Hp}, Same (upd H d (.frz od (.dK (kvl k ps ra)))) G → Same H (upd G d (.dK (kvl k ps ra))) := fun s => same_unlock hd s
    have hp1 := lk pd hp
    have hr1 := lk rd hr0
    generalize upd H d (.frz od (.dK (kvl k ps ra))) = H1 at *
    refine ⟨_, rfl, p, CS, dx, _, _, rfl, hp1, TS.cl, TS.nB, rfl, d, od, _, rfl, hd1, fun D nD => ?_⟩
    refine lc_it (walk_items (d := d) (o := od) (kvs := kvl k ps ra)) (fun j G => ∃ ta : Nat → Addr, G D = some (.lst (((List.range j).filter fun i => z (ps i) != 0).map fun i => V.ref (ta i))) ∧ (∀ i, i < j → z (ps i) ≠ 0 → G (ta i) = some (.tup [.int ((ps i : Nat) : Int), .ref (ra i)])) ∧ Same H1 G)
      ⟨fun _ => 0, upd_same, fun i hi => absurd hi (by omega), Same.upd nD⟩ (fun j G _ h => by obtain ⟨_, _, _, s⟩ := h; exact s _ _ hd1) ?_ ?_
    · rintro j v G1 G2 hj ⟨ta, hD, ht, s1⟩ ⟨T, x, x', rfl, nT, rfl, h1, h2⟩
      rw [kvl_len] at hj
      simp only [kvl_get hj, Option.map_some] at h1 h2
      obtain rfl := Option.some.inj h1
      obtain rfl := Option.some.inj h2
      refine ⟨T, _, rfl, SqT.of upd_same, rfl, _, _, rfl, _, _, rfl, rfl, rfl, ?_⟩
      have sT : Same G1 (upd G1 T (.tup [kV (Sum.inl ((ps j : Nat) : Int)), .ref (ra j)])) := Same.upd nT
      generalize upd G1 T (.tup [kV (Sum.inl ((ps j : Nat) : Int)), .ref (ra j)]) = G2 at *
      have s2 := s1.trans sT
      refine ⟨_, rfl, _, rfl, r, _, _, _, rfl, rfl, SqL.of (s2 _ _ hr1), at_of rfl (iV_get (sz.lt j hj)), _, rfl, ?_⟩
      by_cases z0 : z (ps j) = 0
      · have e : (z (ps j) != 0) = false := by rw [z0]; rfl
        rw [e]
        refine iteF ⟨ta, by rw [filt_f (c := fun i => z (ps i) != 0) e]; exact sT _ _ hD, fun i hi ne => ?_, s2⟩
        by_cases ei : i = j
        · exact absurd (by rw [ei]; exact z0) ne
        · exact sT _ _ (ht i (by omega) ne)
      · have e : (z (ps j) != 0) = true := bne_iff_ne.mpr z0
        rw [e]
        refine iteT ⟨_, rfl, _, rfl, (by show 2 ≤ sizeLine; decide), fun t nt => ⟨_, Same.upd nt _ _ (sT _ _ hD), ?_, fun i => if i = j then t else ta i, ?_, fun i hi ne => ?_, ?_⟩⟩
        · rw [List.length_map]
          exact small1000 (Nat.le_trans (List.length_filter_le _ _) (by rw [List.length_range]; omega))
        · rw [upd_same, filt_t (c := fun i => z (ps i) != 0) e, List.map_append]
          congr 3
          · exact List.map_congr_left fun i hi => by dsimp only; rw [if_neg (by have := (filt_mem hi).1; omega)]
          · show [V.ref t] = [V.ref (if j = j then t else ta j)]
            rw [if_pos rfl]
        · have nDt : t ≠ D := fun e => by rw [e, sT _ _ hD] at nt; cases nt
          by_cases ei : i = j
          · subst ei
            dsimp only
            rw [if_pos rfl, upd_ne nDt, upd_same]
            rfl
          · dsimp only
            rw [if_neg ei]
            have h1 := ht i (by omega) ne
            rw [upd_ne (fun e => by rw [e, hD] at h1; cases h1)]
            exact Same.upd nt _ _ (sT _ _ h1)
        · exact fun b o e => by
            rw [upd_ne (ne_of_none e nD)]
            exact Same.upd nt _ _ (s2 _ _ e)
    rintro G1 ⟨ta, hD, ht, s1⟩
    rw [kvl_len] at hD ht
    refine ⟨s1 _ _ hd1, ?_⟩
    have sG := un s1
    have Dd : D ≠ d := fun e => by rw [e, s1 _ _ hd1] at hD; cases hD
    have hD : (upd G1 d (.dK (kvl k ps ra))) D = some (.lst (((List.range k).filter fun i => z (ps i) != 0).map fun i => V.ref (ta i))) := by rw [upd_ne Dd]; exact hD
    have ht : ∀ i, i < k → z (ps i) ≠ 0 → (upd G1 d (.dK (kvl k ps ra))) (ta i) = some (.tup [.int ((ps i : Nat) : Int), .ref (ra i)]) := fun i hi ne => by
      have h1 := ht i hi ne
      rw [upd_ne (fun e => by rw [e, s1 _ _ hd1] at h1; cases h1)]
      exact h1
    generalize upd G1 d (.dK (kvl k ps ra)) = G at *
    have hix : ∀ i, i ∈ (List.range k).filter (fun i => z (ps i) != 0) → i < k ∧ z (ps i) ≠ 0 := fun i hi => ⟨(filt_mem hi).1, bne_iff_ne.mp (filt_mem hi).2⟩
    have hall : ∀ i, i < k → z (ps i) ≠ 0 → i ∈ (List.range k).filter (fun i => z (ps i) != 0) := fun i hi ne => List.mem_filter.mpr ⟨List.mem_range.mpr hi, bne_iff_ne.mpr ne⟩
    have hlen : ((List.range k).filter (fun i => z (ps i) != 0)).length ≤ k := Nat.le_trans (List.length_filter_le _ _) (by rw [List.length_range]; omega)
    have math := fun (c : Int) (x : Nat) => rest_math (n := n) (L := L) (z := z) (c := c) (x := x) sz.pos
    generalize hI : (List.range k).filter (fun i => z (ps i) != 0) = ix at *
    have lcs := fun {j : Nat} (hj : j ≤ ix.length) => lc_take (g := fun i => L i (ps i)) (ix := ix) (D := D0) (fun i hi => ⟨sz.pos i (hix i hi).1, sz.dv i (hix i hi).1⟩) hj
    have c13 : ∀ {y : Int}, 0 < y → y ∣ D0 → y.natAbs < 2 ^ 13000 := fun p q => lt_pw (Nat.lt_of_le_of_lt (Nat.le_of_dvd (Int.natAbs_pos.mpr sz.d0) (Int.natAbs_dvd_natAbs.mpr q)) sz.bd) (by decide)
    have ixg : ∀ {j : Nat} (hj : j < ix.length), (ix.map fun i => V.ref (ta i))[j]? = some (.ref (ta ix[j])) := fun {j} hj => by rw [List.getElem?_map, List.getElem?_eq_getElem hj]; rfl
    -- the common multiple
    refine ⟨_, rfl, D, rfl, ⟨_, SqL.of hD⟩, for_it (walk_list (K := K) (a := D) (xs := ix.map fun i => V.ref (ta i))) (fun j σ G' => ∃ o2 o3, σ = [some (.ref p), some (.ref r), o2, o3, some (.ref D), some (.int (lc (fun i => L i (ps i)) (ix.take j))), none, none, none, none, none] ∧ G' = G) ⟨none, none, rfl, rfl⟩ (fun j σ G' _ h => by obtain ⟨_, _, _, rfl⟩ := h; exact SqL.of hD) ?_ ?_⟩
    · rintro j x σ G2 G3 hj ⟨o2, o3, rfl, rfl⟩ ⟨rfl, hx⟩
      rw [List.length_map] at hj
      rw [ixg hj] at hx
      obtain rfl := Option.some.inj hx
      have m := hix ix[j] (List.getElem_mem _)
      obtain ⟨c1, c2, c3⟩ := lcs (j := j) (by omega)
      refine ⟨ta ix[j], _, rfl, SqT.of (ht _ m.1 m.2), rfl, _, _, rfl, _, _, rfl, rfl, ?_⟩
      refine ⟨_, rfl, _, rfl, _, rfl, ra ix[j], _, _, _, rfl, rfl, SqL.of (sG _ _ (sp.rows _ m.1)), at_of rfl (iV_get (sz.lt _ m.1)), _, _, rfl, c13 c1 c2, c13 (sz.pos _ m.1) (sz.dv _ m.1), some (.int ((ps ix[j] : Nat) : Int)), some (.ref (ra ix[j])), ?_, rfl⟩
      rw [take_snoc hj, lc_snoc]
      rfl
    rintro σ G2 ⟨o2, o3, rfl, rfl⟩
    rw [List.length_map]
    obtain ⟨c1, c2, c3⟩ := lcs (j := ix.length) (Nat.le_refl _)
    rw [List.take_length] at *
    generalize lc (fun i => L i (ps i)) ix = c at *
    have hrG := sG _ _ hr0
    have bc : Bt 13000 c := c13 c1 c2
    have bp : ∀ i, i < k → Bt (b + 13000) (z (ps i) * c.fdiv (L i (ps i))) := fun i hi => by
      by_cases z0 : z (ps i) = 0
      · rw [z0, Int.zero_mul]; exact VM.bt0 _
      · exact (bz _ (sz.lt i hi)).mul (quot_bt (c3 i (hall i hi z0)) (by have := sz.pos i hi; omega) bc)
    have bt : ∀ x, x < n → ∀ i, i ∈ ix → Bt (b + 40000) (z (ps i) * c.fdiv (L i (ps i)) * L i x) := fun x hx i hi => ((bp i (hix i hi).1).mul (sz.bl i (hix i hi).1 x hx)).up (by omega)
    have bl : ∀ j, j ≤ ix.length → ∀ x, x < n → Bt (b + 50000) (c * z x - sl (ix.take j) (fun i => z (ps i) * c.fdiv (L i (ps i)) * L i x)) := fun j hj x hx => by
      have a1 : Bt (b + 49999) (c * z x) := (bc.mul (bz x hx)).up (by omega)
      have a2 : Bt (b + 49999) (sl (ix.take j) (fun i => z (ps i) * c.fdiv (L i (ps i)) * L i x)) := (sl_bt (bt x hx) hj).up (by omega)
      exact a1.sub a2
    refine ⟨_, rfl, r, rfl, ⟨_, SqL.of hrG⟩, fun E1 nE => ?_⟩
    refine lc_it (walk_list (K := K) (a := r) (xs := iV n z)) (fun j G' => G' E1 = some (.lst (iV j fun x => c * z x)) ∧ Same G2 G') ⟨upd_same, Same.upd nE⟩ (fun j G' _ h => SqL.of (h.2 _ _ hrG)) ?_ ?_
    · rintro j x G3 G4 hj ⟨hE, s3⟩ ⟨rfl, hx⟩
      obtain ⟨hj', rfl⟩ := iV_lt hx
      refine ⟨rfl, _, rfl, _, rfl, _, _, rfl, rfl, ⟨bc.hg (by decide), (bz j hj').hg (by omega)⟩, _, hE, ?_, ?_, fun b o hc => ?_⟩
      · rw [iV_len]; exact small1000 (by omega)
      · rw [upd_same, iV_succ]
      · rw [upd_ne (ne_of_none hc nE)]
        exact s3 _ _ hc
    rintro G3 ⟨hE, s3⟩
    rw [iV_len] at hE
    have sq : ∀ {H' : Hp} {a : Addr} {z : Nat → Int}, H' a = some (.lst (iV n z)) → ZM.SqB false K H' a (iV n z) := fun h => .inr ⟨rfl, SqL.of h⟩
    refine ⟨_, rfl, D, rfl, ⟨_, SqL.of (s3 _ _ hD)⟩, for_it (walk_list (K := K) (a := D) (xs := ix.map fun i => V.ref (ta i))) (fun j σ G' => ∃ o2 o3 o7 e, σ = [some (.ref p), some (.ref r), o2, o3, some (.ref D), some (.int c), some (.ref e), o7, none, none, none] ∧ G' e = some (.lst (iV n fun x => c * z x - sl (ix.take j) (fun i => z (ps i) * c.fdiv (L i (ps i)) * L i x))) ∧ Same G2 G')
      ⟨o2, o3, none, E1, rfl, by
        rw [hE, show (fun x => c * z x - sl (ix.take 0) (fun i => z (ps i) * c.fdiv (L i (ps i)) * L i x)) = fun x => c * z x from funext fun x => Int.sub_zero _], s3⟩ (fun j σ G' _ h => by obtain ⟨_, _, _, _, _, _, s⟩ := h; exact SqL.of (s _ _ hD)) ?_ ?_⟩
    · rintro j x σ G4 G5 hj ⟨o2, o3, o7, e, rfl, he, s4⟩ ⟨rfl, hx⟩
      rw [List.length_map] at hj
      rw [ixg hj] at hx
      obtain rfl := Option.some.inj hx
      have m := hix ix[j] (List.getElem_mem _)
      have hK := s4 _ _ (sG _ _ (sp.rows _ m.1))
      have pj := sz.lt _ m.1
      have blj := bl j (by omega)
      have bpj := bp _ m.1
      have l0 : L ix[j] (ps ix[j]) ≠ 0 := by have := sz.pos _ m.1; omega
      have dvj : L ix[j] (ps ix[j]) ∣ c := c3 _ (List.getElem_mem _)
      refine ⟨ta ix[j], _, rfl, SqT.of (s4 _ _ (ht _ m.1 m.2)), rfl, _, _, rfl, _, _, rfl, rfl, ?_⟩
      refine ⟨_, rfl, _, rfl, r, _, _, _, rfl, rfl, SqL.of (s4 _ _ hrG), at_of rfl (iV_get pj), _, rfl, _, rfl, _, rfl, ra ix[j], _, _, _, rfl, rfl, SqL.of hK, at_of rfl (iV_get pj), _, _, rfl, rfl, l0, _, _, rfl, rfl, ⟨(bz _ pj).hg (by omega), (quot_bt dvj l0 bc).hg (by decide)⟩, ?_⟩
      refine ⟨_, rfl, _, rfl, false, false, e, ra ix[j], _, _, rfl, sq he, sq hK, fun D2 nD2 => ?_⟩
      refine lc_it (ZM.walk_zipM (K := K) (k := false) (l := false) (a := e) (b := ra ix[j]) (xs := iV n _) (ys := iV n _) (n := n) (by rw [iV_len, iV_len, Nat.min_self])) (fun j2 G' => G' D2 = some (.lst (iV j2 fun x => (c * z x - sl (ix.take j) (fun i => z (ps i) * c.fdiv (L i (ps i)) * L i x)) - z (ps ix[j]) * c.fdiv (L ix[j] (ps ix[j])) * L ix[j] x)) ∧ Same G5 G') ⟨upd_same, Same.upd nD2⟩ (fun j G' _ h => ⟨sq (h.2 _ _ he), sq (h.2 _ _ hK)⟩) ?_ ?_
      · rintro j2 v H3 H4 hj2 ⟨hG, s5⟩ ⟨T2, x, x', rfl, nT2, rfl, h1, h2⟩
        obtain ⟨_, rfl⟩ := iV_lt h1
        obtain ⟨_, rfl⟩ := iV_lt h2
        have sT := Same.upd (o := .tup [.int (c * z j2 - sl (ix.take j) (fun i => z (ps i) * c.fdiv (L i (ps i)) * L i j2)), .int (L ix[j] j2)]) nT2
        refine ⟨T2, _, rfl, SqT.of upd_same, rfl, _, _, rfl, _, _, rfl, rfl, rfl, ?_⟩
        refine ⟨_, rfl, _, rfl, _, rfl, _, _, rfl, rfl, ⟨bpj.hg (by omega), (sz.bl _ m.1 _ hj2).hg (by decide)⟩, _, _, rfl, rfl, _, sT _ _ hG, ?_, ?_, ?_⟩
        · rw [iV_len]; exact small1000 (by omega)
        · rw [upd_same, iV_succ]
        · intro b o e
          rw [upd_ne (ne_of_none e nD2)]
          exact sT _ _ (s5 _ _ e)
      · rintro G6 ⟨hG, s6⟩
        refine ⟨_, _, _, D2, rfl, ?_, s4.trans s6⟩
        rw [hG, take_snoc hj]
        congr 3
        funext x
        rw [sl_snoc, Int.sub_sub]
    · rintro σ G4 ⟨o2, o3, o7, e, rfl, he, s4⟩
      rw [List.length_map, List.take_length] at he
      have mt := fun x => math c x fun i hi ne => c3 i (hall i hi ne)
      have bl := bl ix.length (Nat.le_refl _)
      rw [List.take_length] at bl
      refine ⟨_, rfl, e, n, _, rfl, he, n1, fun r' z' g H5 s5 h5 g5 e5 p5 => ?_⟩
      have gne : (g : Rat) ≠ 0 := DT.ic (by omega)
      refine kk r' z' ((c : Rat) / (g : Rat)) H5 ((sG.trans s4).trans s5) h5 ?_ (fun x hx => ?_) p5 fun x hx => ?_
      · rw [Rat.div_def]
        exact Rat.mul_pos (Rat.intCast_pos.mpr c1) (Rat.inv_pos.mpr (Rat.intCast_pos.mpr g5))
      · have e1 := mt x
        rw [e5 x hx, Rat.intCast_mul] at e1
        have inv : (g : Rat)⁻¹ * (g : Rat) = 1 := Rat.inv_mul_cancel _ gne
        rw [Rat.div_def]
        generalize DT.rs k ps L (fun x => (z x : Rat)) x = y at *
        generalize (z' x : Rat) = y2 at *
        generalize (g : Rat) = gr at *
        generalize (c : Rat) = cr at *
        grind
      · refine (bl x hx).le ?_
        rw [e5 x hx, Int.natAbs_mul]
        exact Nat.le_mul_of_pos_left _ (by omega)
end
end RX

set_option Elab.async false
set_option maxRecDepth 100000
set_option exponentiation.threshold 100000
namespace RX
open PySem L2 VA VM
open RQ (Hg Bt)
/-! ### the space of rows: one row more -/
abbrev sSpI : Stmt := inClass (topS 30) 0
theorem scSpI : FnScope ["self"] ["self"] (defScope sSpI) := ⟨rfl, rfl, rfl, by decide +kernel, rfl, by decide +kernel, by decide +kernel⟩
abbrev sTkI : Stmt := inClass (topS 30) 3
theorem scTkI : FnScope ["self", "row", "left", "place", "lead", "kept", "number"] ["self", "row"] (defScope sTkI) := ⟨rfl, rfl, rfl, by decide +kernel, rfl, by decide +kernel, by decide +kernel⟩
theorem dc_it {J : It} {n : Nat} {G : Hp → Prop} {Y : Nat → Hp → V → Hp → Prop} (w : Walk J n G Y) {g : TG} {tt : TT} {tk tv : TE} {vs : List Nat} {σ : L2.St} {H1 : Hp} {D : Addr} {Qd : Hp → Prop} (Pv : Nat → Hp → Prop) (h0 : Pv 0 (upd H1 D (.dK []))) (hG : ∀ i H, i ≤ n → Pv i H → G H)
    (hs : ∀ i x H H', i < n → Pv i H → Y i H x H' → g x (wipe σ vs) H' fun σ2 H2 => wipe σ2 vs = wipe σ vs ∧ tt σ2 H2 fun b H3 =>
      if b = true then tk σ2 H3 fun y H4 => tv σ2 H4 fun z H5 => ∃ kvs k, y = kV k ∧ H5 D = some (.dK kvs) ∧ kvs.length < sizeLine ∧ Pv (i + 1) (upd H5 D (.dK (putK kvs k z))) else Pv (i + 1) H3) (hd : ∀ H, Pv n H → Qd H) :
    ∃ W : Nat → Nat → Hp → Prop, (∃ m, W 0 m (upd H1 D (.dK []))) ∧ ∀ i m H, W i m H →
      (J.stop i H ∧ Qd H) ∨ (J.go i H ∧ ∃ Nx : Hp → Prop, (∀ H', Nx H' → ∃ m', m' < m ∧ W (i + 1) m' H') ∧ ∀ x H', J.yld i H x H' → g x (wipe σ vs) H' fun σ2 H2 => wipe σ2 vs = wipe σ vs ∧ tt σ2 H2 fun b H3 =>
        if b = true then tk σ2 H3 fun y H4 => tv σ2 H4 fun z H5 => ∃ kvs k, y = kV k ∧ H5 D = some (.dK kvs) ∧ kvs.length < sizeLine ∧ Nx (upd H5 D (.dK (putK kvs k z))) else Nx H3) := by
  refine ⟨fun i m H => m = n - i ∧ i ≤ n ∧ Pv i H, ⟨n, by simp, Nat.zero_le _, h0⟩, ?_⟩
  rintro i m H ⟨rfl, hi, p⟩
  have q := hG i H hi p
  by_cases hlt : i < n
  · refine .inr ⟨w.goes i H hlt q, Pv (i + 1), fun H' p' => ⟨n - (i + 1), by omega, rfl, hlt, p'⟩, fun x H' y => hs i x H H' hlt p (w.yields i H x H' hlt q y)⟩
  · have e : i = n := by omega
    subst e
    exact .inl ⟨w.stops H q, hd H p⟩
theorem kvl_succ {k : Nat} {ps : Nat → Nat} {ra : Nat → Addr} : kvl (k + 1) ps ra = kvl k ps ra ++ [(Sum.inl ((ps k : Nat) : Int), V.ref (ra k))] := by
  unfold kvl
  rw [List.range_succ, List.map_append]
  rfl
theorem kvl_ext {k q : Nat} {ps : Nat → Nat} {ra : Nat → Addr} {e : Addr} : kvl (k + 1) (ext ps k q) (ext ra k e) = kvl k ps ra ++ [(Sum.inl ((q : Nat) : Int), V.ref e)] := by
  rw [kvl_succ, ext_same, ext_same]
  congr 1
  unfold kvl
  exact map_range_ext fun i hi => by rw [ext_lt ps q hi, ext_lt ra e hi]
theorem kvl_ext2 {k : Nat} {ps : Nat → Nat} {ra : Nat → Addr} {e : Addr} : kvl (k + 1) ps (ext ra k e) = kvl k ps ra ++ [(Sum.inl ((ps k : Nat) : Int), V.ref e)] := by
  rw [kvl_succ, ext_same]
  congr 1
  unfold kvl
  exact map_range_ext fun i hi => by rw [ext_lt ra e hi]
theorem valV_kvl {k x : Nat} {ps : Nat → Nat} {ra : Nat → Addr} (h : ∀ i, i < k → ps i ≠ x) : valV (kvl k ps ra) (Sum.inl ((x : Nat) : Int)) = none := by
  unfold valV
  rw [List.find?_eq_none.mpr]
  · rfl
  · intro kv hk
    unfold kvl at hk
    obtain ⟨i, hi, rfl⟩ := List.mem_map.mp hk
    have := h i (List.mem_range.mp hi)
    intro z
    have z := of_decide_eq_true z
    injection z with z
    exact this (by omega)
theorem valV_kvl_at {i : Nat} {ps : Nat → Nat} {ra : Nat → Addr} : ∀ {k : Nat}, i < k → (∀ i, i < k → ∀ j, j < k → ps i = ps j → i = j) → valV (kvl k ps ra) (Sum.inl ((ps i : Nat) : Int)) = some (.ref (ra i))
  | 0, h, _ => absurd h (by omega)
  | k + 1, h, inj => by
    rw [kvl_succ, valV_snoc _ _ _ _ (valV_kvl fun j hj e => by have := inj j (by omega) k (by omega) e; omega)]
    by_cases e : i = k
    · subst e
      rw [if_pos rfl]
    · rw [if_neg (fun z => e (inj i h k (by omega) (by injection z with z; omega)))]
      exact valV_kvl_at (k := k) (by omega) fun i hi j hj e => inj i (by omega) j (by omega) e
def spTk (CS : Addr) : Sp := fun vs H Q _ => ∃ (p d r : Addr) (n k b Bd : Nat) (ps : Nat → Nat) (ra : Nat → Addr) (L a : Nat → Nat → Int) (z o : Nat → Int) (c : Rat), vs = [.ref p, .ref r] ∧ SpcAt CS H p d n k ps ra L ∧ H r = some (.lst (iV n z)) ∧ n ≤ 1000 ∧ DT.Bas n k Bd ps L a ∧ 1 ≤ Bd ∧ (n * Bd) ^ n < 2 ^ 12999 ∧ (∀ x, x < n → Bt b (z x)) ∧ b ≤ 10000000 ∧
  (∀ x, x < n → (o x).natAbs ≤ Bd) ∧ c ≠ 0 ∧ (∀ x, x < n → DT.rs k ps L (fun x => (z x : Rat)) x = c * DT.rs k ps L (fun x => (o x : Rat)) x) ∧
  (∀ H' : Hp, Same H H' → DT.InB n k ps L (fun x => (z x : Rat)) → Q .non H') ∧
  (∀ (H' : Hp) (d' : Addr) (ps' : Nat → Nat) (ra' : Nat → Addr) (L' a' : Nat → Nat → Int), But p H H' → SpcAt CS H' p d' n (k + 1) ps' ra' L' → DT.Bas n (k + 1) Bd ps' L' a' → (∀ t, t < k → ∀ x, x < n → a' t x = a t x) → (∀ x, x < n → a' k x = o x) → ¬ DT.InB n k ps L (fun x => (z x : Rat)) → Q .non H')
def spSpI (CS : Addr) : Sp := fun vs H Q _ => ∃ (p dx : Addr), vs = [.ref p] ∧ H p = some (.ins CS dx []) ∧ ∀ (H' : Hp) (d : Addr), But p H H' → (∀ n, SpcAt CS H' p d n 0 (fun _ => 0) (fun _ => 0) (fun _ _ => 0)) → Q .non H'
section
variable {P : Program} {w : World} {K : PySem.W.Frag} {mg : Str → Option Value} {base : Heap}
theorem ok_spi {f CS : Addr} {fd : FuncData} (F : Fun K "__init__" "Space.__init__" sSpI f fd) (TS : TxtS K mg CS) : FnOk P w K mg base CX0 1 f fd ["self"] (spSpI CS) := by
  refine F.ok scSpI (fun vs H Q E h => ?_) (fun cdv A outer s H vs Q E hr h => ?_)
  · obtain ⟨p, dx, rfl, _⟩ := h
    rfl
  · obtain ⟨p, dx, rfl, hp, kk⟩ := h
    refine ⟨_, pss_one (ps_fld (pv 0) pe_dnewK rfl), ?_⟩
    intro d nd
    have pd : p ≠ d := ne_of_none hp nd
    refine ⟨_, rfl, p, CS, dx, _, rfl, by rw [upd_ne pd]; exact hp, TS.cl, TS.nB, by decide, ?_⟩
    refine kk _ d (fun b o e ne => by rw [upd_ne ne, upd_ne (ne_of_none e nd)]; exact e) fun n => ⟨⟨dx, upd_same⟩, by rw [upd_ne pd.symm, upd_same]; rfl, fun i hi => absurd hi (by omega)⟩
theorem ok_tk {f fR fL fF CS : Addr} {fd dR dL dF : FuncData} (F : Fun K "take_in" "Space.take_in" sTkI f fd) (TS : TxtS K mg CS) (cRest : MetN P w K mg base CS "rest" 34 ["self", "row"] (spRest CS) fR dR) (cLp : CalN P w K mg base "leading_place" 1 ["row"] spLp fL dL) (cFrd : CalN P w K mg base "_freed" 34 ["row", "other", "place"] spFrd fF dF) :
    FnOk P w K mg base CX0 36 f fd ["self", "row"] (spTk CS) := by
  refine F.ok scTkI (fun vs H Q E h => ?_) (fun cdv A outer s H vs Q E hr h => ?_)
  · obtain ⟨p, d, r, n, k, b, Bd, ps, ra, L, a, z, o, c, rfl, _⟩ := h
    rfl
  · obtain ⟨p, d, r, n, k, b, Bd, ps, ra, L, a, z, o, c, rfl, sp, hr0, n1, bs, B1, hB, bz, hb, ho, c0, hc, kz, kn⟩ := h
    have hr34 : Room 34 _ := hr.mono (by decide)
    have hr1 : Room 1 _ := hr.mono (by decide)
    have kl := bs.le
    have k1 : k ≤ 1000 := by omega
    obtain ⟨D0, sz⟩ := szl bs B1 k1 (Nat.lt_of_le_of_lt (DT.pow_mono kl B1) hB)
    refine ⟨_, pss_cons (ps_set (i := 2) scTkI.nd rfl (.inr rfl) (pe_meth (pv 0) TS.cl cRest.m cRest.G hr34 cRest.b .nil pass0 (pa_cons (pv 1) pa_nil)))
      (pss_cons (ps_set (i := 3) scTkI.nd rfl (.inr rfl) (pe_call cLp.G hr1 rfl cLp.m cLp.kp cLp.b .nil pass0 (pa_cons (pv 2) pa_nil)))
      (pss_cons (ps_if (pt_cmpR op_isN1 (pv 3) pe_non (nomark _))
        (pss_one ps_retN)
        pss_nil)
      (C8.pss_cut (ps_if (pt_cmpR op_lt (pe_ix ix_list (pv 2) (pv 3) (fun _ _ => rfl)) pe_int (nomark _))
        (pss_one (ps_set (i := 2) scTkI.nd rfl (.inr rfl) (pe_lc (own := [("number", 6)]) (g := gName 6) (tt := tYes) rfl scTkI.nd (pi_list (pv 2)) (blkOk_by (N := ["self", "row", "left", "place", "lead", "kept", "number"]) (sc := (defScope sTkI)) (by decide +kernel)) (fun _ _ _ _ _ => (pg_name (i := 6) scTkI.nd rfl (.inl rfl))) (fun _ _ _ _ _ => pts_nil) (fun _ _ _ _ _ => (pe_un un_neg (pv 6))))))
        pss_nil)
      (pss_cons (ps_fld (pv 0) (pe_lock (pe_dc (own := [("lead", 4), ("kept", 5)]) (g := gTup K 2 (gCons (gName 4) (gCons (gName 5) gNil))) (tt := tYes) rfl scTkI.nd (pi_items (pe_fld (pv 0) rfl)) (blkOk_by (N := ["self", "row", "left", "place", "lead", "kept", "number"]) (sc := (defScope sTkI)) (by decide +kernel)) (fun _ _ _ _ _ => (pg_tup rfl (pgs_cons (pg_name (i := 4) scTkI.nd rfl (.inl rfl)) (pgs_cons (pg_name (i := 5) scTkI.nd rfl (.inl rfl)) pgs_nil)))) (fun _ _ _ _ _ => pts_nil) (fun _ _ _ _ _ => (pv 4)) (fun _ _ _ _ _ => (pe_call cFrd.G hr34 rfl cFrd.m cFrd.kp cFrd.b .nil pass0 (pa_cons (pv 5) (pa_cons (pv 2) (pa_cons (pv 3) pa_nil))))))) rfl)
      (pss_one (ps_asg (pv 2) (pg_sub (pe_fld (pv 0) rfl) (pv 3) (set_dict (dk hr))))))))), ?_⟩
    obtain ⟨dx, hp⟩ := sp.hp
    refine ⟨_, rfl, p, dx, _, rfl, hp, rfl, _, rfl, p, d, r, n, k, b, ps, ra, L, D0, z, rfl, sp, hr0, n1, k1, sz, bz, by omega, fun r1 z1 s1 H1 sH h1 s0 e1 p1 b1 => ?_⟩
    have inb : (∀ x, x < n → z1 x = 0) ↔ DT.InB n k ps L (fun x => (z x : Rat)) := by
      constructor
      · intro h x hx
        have := e1 x hx
        rw [h x hx, Rat.intCast_zero] at this
        have sn : s1 ≠ 0 := fun e => by rw [e] at s0; exact absurd s0 (by decide)
        have i1 : s1⁻¹ * s1 = 1 := Rat.inv_mul_cancel _ sn
        generalize DT.rs k ps L (fun x => (z x : Rat)) x = y at *
        grind
      · intro h x hx
        have := e1 x hx
        rw [h x hx, Rat.mul_zero] at this
        exact Rat.intCast_inj.mp (by rw [this, Rat.intCast_zero])
    refine ⟨_, rfl, r1, n, z1, rfl, h1, fun q H2 hq nq zq s2 => ?_, fun H2 zz s2 => ?_⟩
    · have ninb : ¬ DT.InB n k ps L (fun x => (z x : Rat)) := fun h => nq (inb.mpr h q hq)
      have prm : Prm n z1 := p1.resolve_left fun h => nq (h q hq)
      refine ⟨_, rfl, rfl, _, rfl, itF (decide_eq_false fun e => by cases e) ?_⟩
      have sH2 := sH.trans s2
      have h12 := s2 _ _ h1
      refine ⟨fun σ' G => ∃ e z2 s2, σ' = [some (.ref p), some (.ref r), some (.ref e), some (.int (q : Int)), none, none, none] ∧ G e = some (.lst (iV n z2)) ∧ 0 < z2 q ∧ (∀ x, x < q → z2 x = 0) ∧ s2 ≠ 0 ∧ (∀ x, x < n → (z2 x : Rat) = s2 * DT.rs k ps L (fun x => (z x : Rat)) x) ∧ Prm n z2 ∧ (∀ x, x < n → Bt (b + 50000) (z2 x)) ∧ Same H2 G, ?_, ?_⟩
      · refine ⟨_, rfl, _, rfl, r1, _, _, _, rfl, rfl, SqL.of h12, at_of rfl (iV_get hq), _, _, rfl, rfl, _, rfl, ite2 (fun lt => ?_) (fun lt => ?_)⟩
        · have lt : z1 q < 0 := of_decide_eq_true lt
          refine ⟨_, rfl, r1, rfl, ⟨_, SqL.of h12⟩, fun D nD => ?_⟩
          refine lc_it (walk_list (K := K) (a := r1) (xs := iV n z1)) (fun j G' => G' D = some (.lst (iV j fun x => -z1 x)) ∧ Same H2 G') ⟨upd_same, Same.upd nD⟩ (fun j G' _ h => SqL.of (h.2 _ _ h12)) ?_ ?_
          · rintro j x G3 G4 hj ⟨hE, s3⟩ ⟨rfl, hx⟩
            obtain ⟨hj', rfl⟩ := iV_lt hx
            refine ⟨rfl, _, rfl, _, rfl, _, hE, ?_, ?_, fun b o hc => ?_⟩
            · rw [iV_len]; exact small1000 (by omega)
            · rw [upd_same, iV_succ]
            · rw [upd_ne (ne_of_none hc nD)]
              exact s3 _ _ hc
          · rintro G3 ⟨hE, s3⟩
            rw [iV_len] at hE
            refine ⟨D, _, -s1, rfl, hE, by omega, fun x hx => by rw [zq x hx]; rfl, fun e => ?_, fun x hx => ?_, fun dd hd => prm dd fun x hx => ?_, fun x hx => (b1 x hx).neg, s3⟩
            · rw [show s1 = 0 by grind] at s0
              exact absurd s0 (by decide)
            · rw [Rat.intCast_neg, e1 x hx, Rat.neg_mul]
            · have := hd x hx
              exact Int.dvd_neg.mp this
        · have lt : ¬ z1 q < 0 := fun h => lt (decide_eq_true h)
          exact ⟨r1, z1, s1, rfl, h12, by omega, zq, fun e => by rw [e] at s0; exact absurd s0 (by decide), e1, prm, b1, Same.refl _⟩
      rintro σ' G ⟨e, z2, s2, rfl, he, pq, zb, s20, e2, prm2, b2, sG⟩
      have sHG := sH2.trans sG
      have spG := sp.same sHG
      have hpG := sHG _ _ hp
      have hdG := spG.hd
      have pd : p ≠ d := fun e => by rw [e, hdG] at hpG; cases hpG
      have z20 : ∀ i, i < k → z2 (ps i) = 0 := fun i hi => by
        have := e2 _ (bs.lt i hi)
        rw [bs.at0 hi, Rat.mul_zero] at this
        exact Rat.intCast_inj.mp (by rw [this, Rat.intCast_zero])
      have psq : ∀ i, i < k → ps i ≠ q := fun i hi ee => by have := z20 i hi; rw [ee] at this; omega
      refine ⟨d, _, hdG, trivial, fun od => ?_⟩
      have lk : ∀ {b : Addr} {o : HO}, b ≠ d → G b = some o → (upd G d (.frz od (.dK (kvl k ps ra)))) b = some o := fun h e => by rw [upd_ne h]; exact e
      have hd1 : (upd G d (.frz od (.dK (kvl k ps ra)))) d = some (.frz od (.dK (kvl k ps ra))) := upd_same
      have un : ∀ {G' : Hp}, Same (upd G d (.frz od (.dK (kvl k ps ra)))) G' → Same G (upd G' d (.dK (kvl k ps ra))) := fun s => same_unlock hdG s
      have hp1 := lk pd hpG
      have rows1 : ∀ i, i < k → (upd G d (.frz od (.dK (kvl k ps ra)))) (ra i) = some (.lst (iV n (L i))) := fun i hi => lk (fun ee => by have := spG.rows i hi; rw [ee, hdG] at this; cases this) (spG.rows i hi)
      have he1 := lk (fun ee => by rw [ee, hdG] at he; cases he) he
      generalize upd G d (.frz od (.dK (kvl k ps ra))) = H3 at *
      refine ⟨_, rfl, p, CS, dx, _, _, rfl, hp1, TS.cl, TS.nB, rfl, d, od, _, rfl, hd1, fun D nD => ?_⟩
      refine dc_it (walk_items (d := d) (o := od) (kvs := kvl k ps ra)) (fun j G' => ∃ (rb : Nat → Addr) (L2 : Nat → Nat → Int) (m : Nat → Rat), G' D = some (.dK (kvl j ps rb)) ∧ (∀ i, i < j → G' (rb i) = some (.lst (iV n (L2 i))) ∧ 0 < m i ∧ (∀ x, x < n → (L2 i x : Rat) = m i * ((L i x : Rat) - (L i q : Rat) / (z2 q : Rat) * (z2 x : Rat))) ∧ Prm n (L2 i)) ∧ Same H3 G')
        ⟨fun _ => 0, fun _ _ => 0, fun _ => 0, upd_same, fun i hi => absurd hi (by omega), Same.upd nD⟩ (fun j G' _ h => by obtain ⟨_, _, _, _, _, s⟩ := h; exact s _ _ hd1) ?_ ?_
      · rintro j v G1 G2 hj ⟨rb, L2, m, hD, ht, s1'⟩ ⟨T, x, x', rfl, nT, rfl, g1, g2⟩
        rw [kvl_len] at hj
        simp only [kvl_get hj, Option.map_some] at g1 g2
        obtain rfl := Option.some.inj g1
        obtain rfl := Option.some.inj g2
        refine ⟨T, _, rfl, SqT.of upd_same, rfl, _, _, rfl, _, _, rfl, rfl, rfl, ?_⟩
        have sT : Same G1 (upd G1 T (.tup [kV (Sum.inl ((ps j : Nat) : Int)), .ref (ra j)])) := Same.upd nT
        generalize upd G1 T (.tup [kV (Sum.inl ((ps j : Nat) : Int)), .ref (ra j)]) = G2 at *
        have sB := s1'.trans sT
        have bL : ∀ x, x < n → Bt (b + 50000) (L j x) := fun x hx => (sz.bl j hj x hx).up (by omega)
        refine ⟨_, rfl, _, rfl, _, rfl, _, rfl, ra j, e, n, q, b + 50000, L j, z2, rfl, sB _ _ (rows1 j hj), sB _ _ he1, n1, hq, pq, bs.pr j hj, bL, b2, by omega, fun r' u' mm G5 s5 h5 m0 eq5 pr5 => ?_⟩
        have hD5 := s5 _ _ (sT _ _ hD)
        refine ⟨_, _, rfl, hD5, by rw [kvl_len]; exact small1000 (by omega), ext rb j r', ext L2 j u', ext m j mm, ?_, fun i hi => ?_, fun b o ee => ?_⟩
        · rw [upd_same, putK_new _ (valV_kvl fun i hi ee => by have := bs.inj (by omega) hj ee; omega), kvl_ext2]
        · by_cases ei : i = j
          · subst ei
            rw [ext_same, ext_same, ext_same, upd_ne (fun ee => by rw [ee, hD5] at h5; cases h5)]
            refine ⟨h5, m0, eq5, pr5.resolve_left fun zz => ?_⟩
            have e3 := eq5 _ (bs.lt i hj)
            rw [zz _ (bs.lt i hj), z20 i hj, Rat.intCast_zero, Rat.mul_zero, Rat.sub_eq_add_neg, Rat.neg_zero, Rat.add_zero] at e3
            have l3 : (0 : Rat) < (L i (ps i) : Rat) := Rat.intCast_pos.mpr (bs.pos i hj)
            have := Rat.mul_pos m0 l3
            rw [← e3] at this
            exact absurd this (by decide)
          · rw [ext_lt _ _ (by omega), ext_lt _ _ (by omega), ext_lt _ _ (by omega)]
            obtain ⟨h6, r6⟩ := ht i (by omega)
            rw [upd_ne (fun ee => by rw [ee, hD] at h6; cases h6)]
            exact ⟨s5 _ _ (sT _ _ h6), r6⟩
        · rw [upd_ne (ne_of_none ee nD)]
          exact s5 _ _ (sB _ _ ee)
      rintro G1 ⟨rb, L2, m, hD, ht, s1'⟩
      rw [kvl_len] at hD ht
      refine ⟨s1' _ _ hd1, ?_⟩
      have sG1 := un s1'
      have Dd : D ≠ d := fun ee => by rw [ee, s1' _ _ hd1] at hD; cases hD
      have hD : (upd G1 d (.dK (kvl k ps ra))) D = some (.dK (kvl k ps rb)) := by rw [upd_ne Dd]; exact hD
      have ht : ∀ i, i < k → (upd G1 d (.dK (kvl k ps ra))) (rb i) = some (.lst (iV n (L2 i))) ∧ 0 < m i ∧ (∀ x, x < n → (L2 i x : Rat) = m i * ((L i x : Rat) - (L i q : Rat) / (z2 q : Rat) * (z2 x : Rat))) ∧ Prm n (L2 i) := fun i hi => by
        obtain ⟨h6, r6⟩ := ht i hi
        rw [upd_ne (fun ee => by rw [ee, s1' _ _ hd1] at h6; cases h6)]
        exact ⟨h6, r6⟩
      have nDG : G D = none := by
        cases hGD : G D with
        | none => rfl
        | some o =>
          have := lk Dd hGD
          rw [nD] at this
          cases this
      generalize upd G1 d (.dK (kvl k ps ra)) = G2 at *
      have hp2 := sG1 _ _ hpG
      have pD : p ≠ D := fun ee => by rw [ee, hD] at hp2; cases hp2
      refine ⟨_, rfl, p, CS, dx, _, rfl, hp2, TS.cl, TS.nB, (by show 1 < 1000; decide), ?_⟩
      refine ⟨_, rfl, _, rfl, p, CS, dx, _, _, rfl, upd_same, TS.cl, TS.nB, rfl, _, rfl, D, _, rfl, .inl ⟨_, .inl (q : Int), by rw [upd_ne pD.symm]; exact hD, rfl, by rw [kvl_len]; exact small1000 (by omega), rfl⟩, ?_⟩
      rw [putK_new _ (valV_kvl psq)]
      have oth : ∀ {b : Addr} {o : HO}, b ≠ p → b ≠ D → G2 b = some o → (upd (upd G2 p (.ins CS dx (putF "_by_lead" (.ref D) [("_by_lead", .ref d)]))) D (.dK (kvl k ps rb ++ [(Sum.inl (q : Int), .ref e)]))) b = some o := fun h1 h2 e => by
        rw [upd_ne h2, upd_ne h1]; exact e
      refine kn _ D (ext ps k q) (ext rb k e) (ext L2 k z2) (ext a k o) (fun b o' ee ne => ?_) ⟨⟨dx, by rw [upd_ne pD, upd_same]; rfl⟩, by rw [upd_same, kvl_ext], fun i hi => ?_⟩ ?_ (fun t ht' x hx => by rw [ext_lt a o ht']) (fun x hx => by rw [ext_same]) ninb
      · exact oth ne (ne_of_none (sHG _ _ ee) nDG) (sG1 _ _ (sHG _ _ ee))
      · by_cases ei : i = k
        · subst ei
          rw [ext_same, ext_same]
          have he2 := sG1 _ _ he
          exact oth (fun ee => by rw [ee, hp2] at he2; cases he2) (fun ee => by rw [ee, hD] at he2; cases he2) he2
        · rw [ext_lt _ _ (by omega), ext_lt _ _ (by omega)]
          have h6 := (ht i (by omega)).1
          exact oth (fun ee => by rw [ee, hp2] at h6; cases h6) (fun ee => by rw [ee, hD] at h6; cases h6) h6
      · refine bs.more (o := o) (left := z2) (s := s2 * c) (q := q) (m := m) ho (DT.rmul_ne s20 c0) (fun x hx => ?_) hq pq zb prm2 (fun t ht => ext_lt ps q ht) (ext_same ps k q) (fun t ht' => ?_) (fun x hx => by rw [ext_same]) (fun t ht' => ?_) (fun t ht' x hx => by rw [ext_lt a o ht']) (fun x hx => by rw [ext_same])
        · rw [e2 x hx, hc x hx, Rat.mul_assoc]
        · rw [ext_lt L2 z2 ht']
          exact ⟨(ht t ht').2.1, (ht t ht').2.2.1⟩
        · rw [ext_lt L2 z2 ht']
          exact (ht t ht').2.2.2
    · refine ⟨_, rfl, rfl, _, rfl, itT (decide_eq_true rfl) ?_⟩
      exact kz H2 (sH.trans s2) (inb.mp zz)
end
end RX

set_option Elab.async false
set_option maxRecDepth 100000
set_option exponentiation.threshold 100000
namespace RX
open PySem L2 VA VM
open RQ (Hg Bt)
/-! ### the rows of a space -/
abbrev sRows : Stmt := inClass (topS 30) 4
theorem scRows : FnScope ["self", "lead"] ["self"] (defScope sRows) := ⟨rfl, rfl, rfl, by decide +kernel, rfl, by decide +kernel, by decide +kernel⟩
theorem sorted_pick {k : Nat} {ps : Nat → Nat} {ys : List Int} (inj : ∀ i, i < k → ∀ j, j < k → ps i = ps j → i = j) (pm : ys.Perm ((List.range k).map fun i => ((ps i : Nat) : Int))) (pw : ys.Pairwise (· ≤ ·)) :
    ys.length = k ∧ ∃ σ : Nat → Nat, (∀ i, i < k → σ i < k ∧ ys[i]? = some ((ps (σ i) : Nat) : Int)) ∧ ∀ i j, i < j → j < k → ps (σ i) < ps (σ j) := by
  have hl : ys.length = k := by rw [pm.length_eq, List.length_map, List.length_range]
  have g : ∀ i, ∃ j, i < k → j < k ∧ ys[i]? = some ((ps j : Nat) : Int) := fun i => by
    by_cases hi : i < k
    · have hm : ys[i] ∈ (List.range k).map fun i => ((ps i : Nat) : Int) := pm.mem_iff.mp (List.getElem_mem (by omega))
      obtain ⟨j, hj, e⟩ := List.mem_map.mp hm
      exact ⟨j, fun _ => ⟨List.mem_range.mp hj, by rw [List.getElem?_eq_getElem (by omega), ← e]⟩⟩
    · exact ⟨0, fun h => absurd h hi⟩
  obtain ⟨σ, hσ⟩ := Classical.axiomOfChoice g
  have nd : ys.Nodup := by
    refine pm.nodup_iff.mpr ?_
    refine List.nodup_iff_pairwise_ne.mpr ?_
    rw [List.pairwise_map]
    refine List.Pairwise.imp_of_mem (R := fun a b => a ≠ b) (fun {a b} ha hb ne e => ne (inj a (List.mem_range.mp ha) b (List.mem_range.mp hb) (by omega))) (List.nodup_iff_pairwise_ne.mp List.nodup_range)
  refine ⟨hl, σ, fun i hi => hσ i hi, fun i j hij hj => ?_⟩
  obtain ⟨a1, e1⟩ := hσ i (by omega)
  obtain ⟨a2, e2⟩ := hσ j hj
  have l1 : i < ys.length := by omega
  have l2 : j < ys.length := by omega
  rw [List.getElem?_eq_getElem l1] at e1
  rw [List.getElem?_eq_getElem l2] at e2
  have h1 := List.pairwise_iff_getElem.mp pw i j l1 l2 hij
  have h2 := List.pairwise_iff_getElem.mp (List.nodup_iff_pairwise_ne.mp nd) i j l1 l2 hij
  rw [Option.some.inj e1, Option.some.inj e2] at h1 h2
  omega
def spRows (CS : Addr) : Sp := fun vs H Q _ => ∃ (p d : Addr) (n k : Nat) (ps : Nat → Nat) (ra : Nat → Addr) (L : Nat → Nat → Int), vs = [.ref p] ∧ SpcAt CS H p d n k ps ra L ∧ k < 64 ∧ (∀ i, i < k → ∀ j, j < k → ps i = ps j → i = j) ∧
  ∀ (r : Addr) (σ : Nat → Nat) (H' : Hp), Same H H' → H r = none → H' r = some (.lst ((List.range k).map fun i => V.ref (ra (σ i)))) → (∀ i, i < k → σ i < k) → (∀ i j, i < j → j < k → ps (σ i) < ps (σ j)) → Q (.ref r) H'
section
variable {P : Program} {w : World} {K : PySem.W.Frag} {mg : Str → Option Value} {base : Heap}
theorem ok_rows {f CS : Addr} {fd : FuncData} (F : Fun K "rows" "Space.rows" sRows f fd) (TS : TxtS K mg CS) (mSorted : mg "sorted" = none) : FnOk P w K mg base CX0 1 f fd ["self"] (spRows CS) := by
  refine F.ok scRows (fun vs H Q E h => ?_) (fun cdv A outer s H vs Q E hr h => ?_)
  · obtain ⟨p, d, n, k, ps, ra, L, rfl, _⟩ := h
    rfl
  · obtain ⟨p, d, n, k, ps, ra, L, rfl, sp, k64, inj, kk⟩ := h
    refine ⟨_, pss_one (ps_ret (pe_lc (own := [("lead", 1)]) (g := gName 1) (tt := tYes) rfl scRows.nd (pi_list (pe_callB (call_sortedDI rfl) (by rfl) mSorted (by decide +kernel) (pa_cons (pe_fld (pv 0) rfl) pa_nil))) (blkOk_by (N := ["self", "lead"]) (sc := (defScope sRows)) (by decide +kernel)) (fun _ _ _ _ _ => (pg_name (i := 1) scRows.nd rfl (.inl rfl))) (fun _ _ _ _ _ => pts_nil) (fun _ _ _ _ _ => (pe_dget (dk hr) (pe_fldK (K := K) rfl (pv 0) rfl) (pv 1) (fun _ _ => rfl))))), ?_⟩
    obtain ⟨dx, hp⟩ := sp.hp
    refine ⟨_, rfl, p, CS, dx, _, _, rfl, hp, TS.cl, TS.nB, rfl, d, _, (List.range k).map fun i => ((ps i : Nat) : Int), rfl, .inl sp.hd, ?_, by rw [List.length_map, List.length_range]; exact k64, fun ys q pm pw nq => ?_⟩
    · unfold kvl
      rw [List.map_map, List.map_map]
      rfl
    obtain ⟨hl, σ, hσ, asc⟩ := sorted_pick inj pm pw
    have s1 : Same H (upd H q (.lst (ys.map V.int))) := Same.upd nq
    have hq : (upd H q (.lst (ys.map V.int))) q = some (.lst (ys.map V.int)) := upd_same
    generalize upd H q (.lst (ys.map V.int)) = H1 at *
    refine ⟨q, rfl, ⟨_, SqL.of hq⟩, fun D nD => ?_⟩
    refine lc_it (walk_list (K := K) (a := q) (xs := ys.map V.int)) (fun j G => G D = some (.lst ((List.range j).map fun i => V.ref (ra (σ i)))) ∧ Same H1 G) ⟨upd_same, Same.upd nD⟩ (fun j G _ h => SqL.of (h.2 _ _ hq)) ?_ ?_
    · rintro j x G1 G2 hj ⟨hD, s2⟩ ⟨rfl, hx⟩
      rw [List.length_map, hl] at hj
      rw [List.getElem?_map, (hσ j hj).2] at hx
      obtain rfl := Option.some.inj hx
      have s3 := s1.trans s2
      refine ⟨rfl, _, rfl, p, CS, dx, _, _, rfl, s3 _ _ hp, TS.cl, TS.nB, rfl, _, rfl, d, .ref (ra (σ j)), rfl, .inl ⟨_, .inl ((ps (σ j) : Nat) : Int), .inl (s3 _ _ sp.hd), rfl, (valV_kvl_at (hσ j hj).1 inj).symm⟩, _, hD, ?_, ?_, fun b o hc => ?_⟩
      · rw [List.length_map, List.length_range]; exact small1000 (by omega)
      · rw [upd_same, List.range_succ, List.map_append]
        rfl
      · rw [upd_ne (ne_of_none hc nD)]
        exact s2 _ _ hc
    · rintro G ⟨hD, s2⟩
      rw [List.length_map, hl] at hD
      exact kk D σ G (s1.trans s2) (s1.free nD) hD (fun i hi => (hσ i hi).1) asc
end
end RX

set_option Elab.async false
set_option maxRecDepth 100000
namespace RX
open PySem L2 VM
open RQ (Hg Bt)
abbrev sPlus : Stmt := topS 42
theorem scPlu : FnScope ["one", "two"] ["one", "two"] (defScope sPlus) := ⟨rfl, rfl, rfl, by decide +kernel, rfl, by decide +kernel, by decide +kernel⟩
abbrev sBy : Stmt := topS 43
theorem scBy : FnScope ["one", "two"] ["one", "two"] (defScope sBy) := ⟨rfl, rfl, rfl, by decide +kernel, rfl, by decide +kernel, by decide +kernel⟩
abbrev sEntry : Stmt := topS 39
theorem scEn : FnScope ["tape"] ["tape"] (defScope sEntry) := ⟨rfl, rfl, rfl, by decide +kernel, rfl, by decide +kernel, by decide +kernel⟩
abbrev sGreat : Stmt := topS 38
theorem scGrt : FnScope ["tape", "number", "turn"] ["tape"] (defScope sGreat) := ⟨rfl, rfl, rfl, by decide +kernel, rfl, by decide +kernel, by decide +kernel⟩
def HgQ (q : Rat) : Prop := Hg q.num ∧ Hg (q.den : Int)
abbrev PrQ (H : Hp) (p : Addr) (q : Rat) : Prop := PairAt H p q.num (q.den : Int)
theorem FnOk.weak {P : Program} {w : World} {K : PySem.W.Frag} {mg : Str → Option Value} {base : Heap} {CX : CXT} {k : Nat} {f : Addr} {fd : FuncData} {ps : List Str} {sp sp' : Sp} (F : FnOk P w K mg base CX k f fd ps sp) (h : ∀ vs H Q E, sp' vs H Q E → sp vs H Q E) : FnOk P w K mg base CX k f fd ps sp' :=
  ⟨fun vs H Q E z => F.len vs H Q E (h vs H Q E z), fun A outer s H args us vs Q E a1 a2 a3 a4 z => F.run A outer s H args us vs Q E a1 a2 a3 a4 (h vs H Q E z)⟩
/-- the address alone -/
def K1 (a : Addr) : Addr → Prop := fun b => b = a
theorem Keep.to {a : Addr} {H H' : Hp} (k : Keep (K1 a) H H') : But a H H' := fun b o h n => k.k b o h n
theorem keep_feed {a cl : Addr} {H H' : Hp} (b : But a H H') (f : FeedAt H' a cl) : Keep (K1 a) H H' := Keep.but b rfl f.there
/-- of at most b bits above and below -/
def Bq (b : Nat) (q : Rat) : Prop := Bt b q.num ∧ Bt b (q.den : Int)
theorem Bq.up {b c : Nat} {q : Rat} (h : Bq b q) (l : b ≤ c) : Bq c q := ⟨h.1.up l, h.2.up l⟩
theorem Bq.hg {b : Nat} {q : Rat} (h : Bq b q) (l : b ≤ 60000000) : HgQ q := ⟨⟨b, l, h.1⟩, ⟨b, l, h.2⟩⟩
theorem bq0 {b : Nat} : Bq (b + 1) 0 := ⟨show (0 : Int).natAbs < 2 ^ (b + 1) by have : 0 < 2 ^ (b + 1) := Nat.pow_pos (by decide); omega, show (1 : Int).natAbs < 2 ^ (b + 1) from Nat.one_lt_two_pow (by omega)⟩
theorem bq_low {b : Nat} {n d : Int} {q : Rat} (h : d ≠ 0) (e : (n : Rat) = q * (d : Rat)) (bn : Bt b n) (bd : Bt b d) : Bq b q := by
  obtain ⟨e1, e2⟩ := RQ.low h e
  exact ⟨by rw [← e1]; exact bn.le (RT.top_le h), by rw [← e2]; exact bd.le (RT.bot_le h)⟩
theorem sum_eq {u v : Rat} : ((u.num * (v.den : Int) + v.num * (u.den : Int) : Int) : Rat) = (u + v) * (((u.den : Int) * (v.den : Int) : Int) : Rat) := by
  rw [Rat.intCast_add, Rat.intCast_mul, Rat.intCast_mul, Rat.intCast_mul, RQ.nd u, RQ.nd v]
  grind
theorem mul_eq {u v : Rat} : ((u.num * v.num : Int) : Rat) = (u * v) * (((u.den : Int) * (v.den : Int) : Int) : Rat) := by
  rw [Rat.intCast_mul, Rat.intCast_mul, RQ.nd u, RQ.nd v]
  grind
theorem Bq.mul {a b : Nat} {u v : Rat} (h : Bq a u) (k : Bq b v) : Bq (a + b) (u * v) := bq_low (Int.mul_ne_zero (den_ne u) (den_ne v)) mul_eq (h.1.mul k.1) (h.2.mul k.2)
theorem Bq.add {a b : Nat} {u v : Rat} (h : Bq a u) (k : Bq b v) : Bq (a + b + 1) (u + v) := by
  refine bq_low (Int.mul_ne_zero (den_ne u) (den_ne v)) sum_eq ?_ ((h.2.mul k.2).up (Nat.le_succ _))
  have h1 : Bt (a + b) (u.num * (v.den : Int)) := h.1.mul k.2
  have h2 : Bt (a + b) (v.num * (u.den : Int)) := (k.1.mul h.2).up (by omega)
  exact addB h1 h2
theorem Bq.dot {a b : Nat} {u v : Nat → Rat} : ∀ {n : Nat}, (∀ i, i < n → Bq a (u i)) → (∀ i, i < n → Bq b (v i)) → Bq ((a + b + 1) * n + 1) (dot u v n)
  | 0, _, _ => bq0
  | n + 1, h, k => by
    have x := Bq.dot (n := n) (fun i hi => h i (by omega)) (fun i hi => k i (by omega))
    have y := (h n (by omega)).mul (k n (by omega))
    exact (x.add y).up (by rw [Nat.mul_succ]; omega)
def spPlu (C : Addr) : Sp := fun vs H Q _ => ∃ (N : Addr → Prop) (p q : Addr) (u v : Rat), vs = [.ref p, .ref q] ∧ At C N H (.ref p) (prD u) ∧ At C N H (.ref q) (prD v) ∧ Alc N H ∧ HgQ u ∧ HgQ v ∧ ∀ (r : Addr) (H' : Hp), Same H H' → At C N H' (.ref r) (prD (u + v)) → Q (.ref r) H'
def spBy (C : Addr) : Sp := fun vs H Q _ => ∃ (N : Addr → Prop) (p q : Addr) (u v : Rat), vs = [.ref p, .ref q] ∧ At C N H (.ref p) (prD u) ∧ At C N H (.ref q) (prD v) ∧ Alc N H ∧ HgQ u ∧ HgQ v ∧ ∀ (r : Addr) (H' : Hp), Same H H' → At C N H' (.ref r) (prD (u * v)) → Q (.ref r) H'
/-- sizes that a sum of products wants -/
structure DotOk (n : Nat) (u v : Nat → Rat) : Prop where
  a : ∀ i, i < n → HgQ (u i)
  b : ∀ i, i < n → HgQ (v i)
  p : ∀ i, i < n → HgQ (u i * v i)
  s : ∀ m, m ≤ n → HgQ (dot u v m)
theorem dotOk_bq {a b n : Nat} {u v : Nat → Rat} (hu : ∀ i, i < n → Bq a (u i)) (hv : ∀ i, i < n → Bq b (v i)) (l : (a + b + 1) * n + 1 ≤ 60000000) (l2 : a + b ≤ 60000000) : DotOk n u v :=
  ⟨fun i hi => (hu i hi).hg (by omega), fun i hi => (hv i hi).hg (by omega), fun i hi => ((hu i hi).mul (hv i hi)).hg l2, fun m hm => (Bq.dot (n := m) (fun i hi => hu i (by omega)) fun i hi => hv i (by omega)).hg (Nat.le_trans (Nat.succ_le_succ (Nat.mul_le_mul_left _ hm)) l)⟩
def spSb (C : Addr) : Sp := fun vs H Q _ => ∃ (N : Addr → Prop) (p q : Addr) (n m : Nat) (u v : Nat → Rat), vs = [.ref p, .ref q] ∧ At C N H (.ref p) (prL n u) ∧ At C N H (.ref q) (prL m v) ∧ Alc N H ∧ n ≤ m ∧ m ≤ 1000 ∧ DotOk n u v ∧
  ∀ (r : Addr) (H' : Hp), Same H H' → At C N H' (.ref r) (prD (dot u v n)) → Q (.ref r) H'
def spEn : Sp := fun vs H Q _ => ∃ (a cl : Addr), vs = [.ref a] ∧ FeedAt H a cl ∧ ∀ (x : Int) (H' : Hp), -3 ≤ x → x ≤ 5 → FeedAt H' a cl → But a H H' → Q (.int x) H'
def spGrt : Sp := fun vs H Q _ => ∃ (a cl : Addr), vs = [.ref a] ∧ FeedAt H a cl ∧ ∀ (x : Int) (H' : Hp), 1 ≤ x → Bt 70 x → FeedAt H' a cl → But a H H' → Q (.int x) H'
section
variable {P : Program} {w : World} {K : PySem.W.Frag} {mg : Str → Option Value} {base : Heap}
theorem ne_num {q : Rat} (h : q ≠ 0) : V.int q.num ≠ V.int 0 := fun z => h (RQ.num0.mp (by injection z))
theorem ok_plu {f fL C : Addr} {fd dL : FuncData} (F : Fun K "_law_plus" "_law_plus" sPlus f fd) (cLo : CalN P w K mg base "_law_lowest" 33 ["top", "bottom"] spPairB fL dL) : FnOk P w K mg base CX0 34 f fd ["one", "two"] (spPlu C) := by
  refine F.ok scPlu (fun vs H Q E h => ?_) (fun cdv A outer s H vs Q E hr h => ?_)
  · obtain ⟨N, p, q, u, v, rfl, _⟩ := h
    rfl
  · obtain ⟨N, p, q, u, v, rfl, hp, hq, al, gu, gv, kk⟩ := h
    have hr33 : Room 33 _ := hr
    obtain ⟨_, e, hP, _⟩ := hp.pair
    cases e
    obtain ⟨_, e, hQ, _⟩ := hq.pair
    cases e
    refine ⟨_, pss_cons (ps_if (pt_cmpR op_eq (pe_ix ix_tup (pv 0) pe_int (fun _ _ => rfl)) pe_int (nomark _))
        (pss_one (ps_ret (pv 1)))
        pss_nil)
      (pss_cons (ps_if (pt_cmpR op_eq (pe_ix ix_tup (pv 1) pe_int (fun _ _ => rfl)) pe_int (nomark _))
        (pss_one (ps_ret (pv 0)))
        pss_nil)
      (pss_one (ps_ret (pe_call cLo.G hr33 rfl cLo.m cLo.kp cLo.b .nil pass0 (pa_cons (pe_op op_add (pe_op RQ.op_mulH (pe_ix ix_tup (pv 0) pe_int (fun _ _ => rfl)) (pe_ix ix_tup (pv 1) pe_int (fun _ _ => rfl))) (pe_op RQ.op_mulH (pe_ix ix_tup (pv 1) pe_int (fun _ _ => rfl)) (pe_ix ix_tup (pv 0) pe_int (fun _ _ => rfl)))) (pa_cons (pe_op RQ.op_mulH (pe_ix ix_tup (pv 0) pe_int (fun _ _ => rfl)) (pe_ix ix_tup (pv 1) pe_int (fun _ _ => rfl))) pa_nil)))))), ?_⟩
    refine ⟨_, rfl, p, _, 0, _, rfl, rfl, hP.t, rfl, rfl, _, rfl, ?_⟩
    by_cases z : u = 0
    · refine itT (by rw [show u.num = 0 by rw [z]; rfl, decide_eq_true rfl]) ?_
      exact ⟨_, rfl, kk q H (Same.refl _) (by rw [z, Rat.zero_add]; exact hq)⟩
    refine itF (decide_eq_false (ne_num z)) ?_
    refine ⟨_, rfl, q, _, 0, _, rfl, rfl, hQ.t, rfl, rfl, _, rfl, ?_⟩
    by_cases z2 : v = 0
    · refine itT (by rw [show v.num = 0 by rw [z2]; rfl, decide_eq_true rfl]) ?_
      exact ⟨_, rfl, kk p H (Same.refl _) (by rw [z2, Rat.add_zero]; exact hp)⟩
    refine itF (decide_eq_false (ne_num z2)) ?_
    refine ⟨_, rfl, p, _, 0, _, rfl, rfl, hP.t, rfl, _, rfl, q, _, 1, _, rfl, rfl, hQ.t, rfl, _, _, rfl, rfl, ⟨gu.1, gv.2⟩, _, rfl, q, _, 0, _, rfl, rfl, hQ.t, rfl, _, rfl, p, _, 1, _, rfl, rfl, hP.t, rfl, _, _, rfl, rfl, ⟨gv.1, gu.2⟩, _, _, rfl, rfl, _, rfl, p, _, 1, _, rfl, rfl, hP.t, rfl, _, rfl, q, _, 1, _, rfl, rfl, hQ.t, rfl, _, _, rfl, rfl, ⟨gu.2, gv.2⟩, ?_⟩
    refine ⟨_, _, rfl, Int.mul_ne_zero (den_ne u) (den_ne v), fun r H' s nr hR => kk r H' s ?_⟩
    obtain ⟨q1, q2⟩ := RQ.low (Int.mul_ne_zero (den_ne u) (den_ne v)) (sum_eq (u := u) (v := v))
    rw [q1, q2] at hR
    exact at_pair hR (al.fresh nr)
theorem ok_by {f fL C : Addr} {fd dL : FuncData} (F : Fun K "_law_by" "_law_by" sBy f fd) (cLo : CalN P w K mg base "_law_lowest" 33 ["top", "bottom"] spPairB fL dL) : FnOk P w K mg base CX0 34 f fd ["one", "two"] (spBy C) := by
  refine F.ok scBy (fun vs H Q E h => ?_) (fun cdv A outer s H vs Q E hr h => ?_)
  · obtain ⟨N, p, q, u, v, rfl, _⟩ := h
    rfl
  · obtain ⟨N, p, q, u, v, rfl, hp, hq, al, gu, gv, kk⟩ := h
    have hr33 : Room 33 _ := hr
    obtain ⟨_, e, hP, _⟩ := hp.pair
    cases e
    obtain ⟨_, e, hQ, _⟩ := hq.pair
    cases e
    refine ⟨_, C8.pss_cut (ps_if (PW.pt (pw_or (pt_cmpR op_eq (pe_ix ix_tup (pv 0) pe_int (fun _ _ => rfl)) pe_int (nomark _)) (pw_or1 (pt_cmpR op_eq (pe_ix ix_tup (pv 1) pe_int (fun _ _ => rfl)) pe_int (nomark _)))))
        (pss_one (ps_ret (pe_tup (pa_cons pe_int (pa_cons pe_int pa_nil)))))
        pss_nil)
      (pss_one (ps_ret (pe_call cLo.G hr33 rfl cLo.m cLo.kp cLo.b .nil pass0 (pa_cons (pe_op RQ.op_mulH (pe_ix ix_tup (pv 0) pe_int (fun _ _ => rfl)) (pe_ix ix_tup (pv 1) pe_int (fun _ _ => rfl))) (pa_cons (pe_op RQ.op_mulH (pe_ix ix_tup (pv 0) pe_int (fun _ _ => rfl)) (pe_ix ix_tup (pv 1) pe_int (fun _ _ => rfl))) pa_nil))))), ?_⟩
    have zero : u * v = 0 → (tRet (fun _ H Q => 2 ≤ sizeLine ∧ ∀ r, H r = none → Q (.ref r) (upd H r (.tup [.int 0, .int 1]))) : TS) { nx := fun _ _ => False, rt := Q } [some (.ref p), some (.ref q)] H := fun z => ⟨(by show 2 ≤ sizeLine; decide), fun r nr => kk r _ (Same.upd nr) (by rw [z]; exact at_pair (q := 0) (show PairAt _ r 0 1 from upd_same) (al.fresh nr))⟩
    refine ⟨fun σ' H2 => σ' = [some (.ref p), some (.ref q)] ∧ H2 = H ∧ u ≠ 0 ∧ v ≠ 0, ?_, ?_⟩
    · refine ⟨_, rfl, p, _, 0, _, rfl, rfl, hP.t, rfl, rfl, _, rfl, ?_⟩
      by_cases z : u = 0
      · refine itT (by rw [show u.num = 0 by rw [z]; rfl, decide_eq_true rfl]) ?_
        exact zero (by rw [z, Rat.zero_mul])
      refine itF (decide_eq_false (ne_num z)) ?_
      refine ⟨_, rfl, q, _, 0, _, rfl, rfl, hQ.t, rfl, rfl, _, rfl, ?_⟩
      by_cases z2 : v = 0
      · refine itT (by rw [show v.num = 0 by rw [z2]; rfl, decide_eq_true rfl]) ?_
        exact zero (by rw [z2, Rat.mul_zero])
      exact itF (decide_eq_false (ne_num z2)) ⟨rfl, rfl, z, z2⟩
    · rintro σ' H2 ⟨rfl, rfl, z, z2⟩
      refine ⟨_, rfl, p, _, 0, _, rfl, rfl, hP.t, rfl, _, rfl, q, _, 0, _, rfl, rfl, hQ.t, rfl, _, _, rfl, rfl, ⟨gu.1, gv.1⟩, _, rfl, p, _, 1, _, rfl, rfl, hP.t, rfl, _, rfl, q, _, 1, _, rfl, rfl, hQ.t, rfl, _, _, rfl, rfl, ⟨gu.2, gv.2⟩, ?_⟩
      refine ⟨_, _, rfl, Int.mul_ne_zero (den_ne u) (den_ne v), fun r H' s nr hR => kk r H' s ?_⟩
      obtain ⟨q1, q2⟩ := RQ.low (Int.mul_ne_zero (den_ne u) (den_ne v)) (mul_eq (u := u) (v := v))
      rw [q1, q2] at hR
      exact at_pair hR (al.fresh nr)
theorem ok_en {f fN : Addr} {fd dN : FuncData} (F : Fun K "_law_entry" "_law_entry" sEntry f fd) (cNx : CalN P w K mg base "_law_next" 1 ["tape", "limit"] spDraw fN dN) : FnOk P w K mg base CX0 2 f fd ["tape"] spEn := by
  refine F.ok scEn (fun vs H Q E h => ?_) (fun cdv A outer s H vs Q E hr h => ?_)
  · obtain ⟨a, cl, rfl, _⟩ := h
    rfl
  · obtain ⟨a, cl, rfl, hF, kk⟩ := h
    have hr1 : Room 1 _ := hr
    refine ⟨_, pss_one (ps_ret (pe_ix ix_list (pe_lst (pa_cons pe_int (pa_cons pe_int (pa_cons pe_int (pa_cons pe_int (pa_cons pe_int (pa_cons pe_int (pa_cons (pe_un un_neg pe_int) (pa_cons pe_int (pa_cons (pe_un un_neg pe_int) (pa_cons pe_int pa_nil))))))))))) (pe_call cNx.G hr1 rfl cNx.m cNx.kp cNx.b .nil pass0 (pa_cons (pv 0) (pa_cons pe_int pa_nil))) (fun _ _ => rfl))), ?_⟩
    refine ⟨_, rfl, _, rfl, (by show 10 ≤ sizeLine; decide), fun l nl => ?_⟩
    have s1 : Same H (upd H l (.lst [.int 0, .int 0, .int 0, .int 0, .int 1, .int 1, .int (-1), .int 2, .int (-3), .int 5])) := Same.upd nl
    have hl : (upd H l (.lst [.int 0, .int 0, .int 0, .int 0, .int 1, .int 1, .int (-1), .int 2, .int (-3), .int 5])) l = some (.lst [.int 0, .int 0, .int 0, .int 0, .int 1, .int 1, .int (-1), .int 2, .int (-3), .int 5]) := upd_same
    generalize upd H l (.lst [.int 0, .int 0, .int 0, .int 0, .int 1, .int 1, .int (-1), .int 2, .int (-3), .int 5]) = H1 at *
    refine ⟨_, rfl, a, cl, 10, rfl, hF.same s1, by decide, by decide, fun y H2 y0 y1 f2 b2 => ?_⟩
    have la : l ≠ a := (hF.ne_new nl).1
    have hl2 := b2 _ _ hl la
    have bb := (Same.but (a := a) s1).trans b2
    have : y = 0 ∨ y = 1 ∨ y = 2 ∨ y = 3 ∨ y = 4 ∨ y = 5 ∨ y = 6 ∨ y = 7 ∨ y = 8 ∨ y = 9 := by omega
    rcases this with rfl | rfl | rfl | rfl | rfl | rfl | rfl | rfl | rfl | rfl <;> exact ⟨l, _, _, _, rfl, rfl, SqL.of hl2, rfl, kk _ H2 (by decide) (by decide) f2 bb⟩
theorem ok_grt {f fN : Addr} {fd dN : FuncData} (F : Fun K "_law_great" "_law_great" sGreat f fd) (T : TxtL mg) (cNx : CalN P w K mg base "_law_next" 1 ["tape", "limit"] spDraw fN dN) : FnOk P w K mg base CX0 2 f fd ["tape"] spGrt := by
  refine F.ok scGrt (fun vs H Q E h => ?_) (fun cdv A outer s H vs Q E hr h => ?_)
  · obtain ⟨a, cl, rfl, _⟩ := h
    rfl
  · obtain ⟨a, cl, rfl, hF, kk⟩ := h
    have hr1 : Room 1 _ := hr
    refine ⟨_, pss_cons (ps_set (i := 1) scGrt.nd rfl (.inl rfl) pe_int)
      (pss_cons (ps_for PassesOwn.never rfl (pi_range1 (by rfl) T.range (pa_cons pe_int pa_nil)) (pg_name (i := 2) scGrt.nd rfl (.inl rfl))
        (pss_one (ps_set (i := 1) scGrt.nd rfl (.inl rfl) (pe_op op_add (pe_op op_mul (pv 1) (pe_op op_pow pe_int pe_int)) (pe_call cNx.G hr1 rfl cNx.m cNx.kp cNx.b .nil pass0 (pa_cons (pv 0) (pa_cons (pe_op op_pow pe_int pe_int) pa_nil)))))))
      (pss_one (ps_ret (pe_op op_add pe_int (pe_op op_mod (pe_callTy call_int1 (by rfl) T.int (by decide +kernel) (pa_cons (pv 1) pa_nil)) (pe_op op_sub (pe_op op_pow pe_int pe_int) pe_int)))))), ?_⟩
    refine ⟨3, rfl, by decide, by decide, for_range (n := 3) (fun i σ G => ∃ (x : Int) (o2 : Option V), σ = [some (.ref a), some (.int x), o2] ∧ 0 ≤ x ∧ x < 10000000 ^ i ∧ FeedAt G a cl ∧ But a H G) ⟨0, none, rfl, by decide, by decide, hF, But.refl a H⟩ ?_ ?_⟩
    · rintro i σ G hi ⟨x, o2, rfl, x0, x1, f1, b1⟩
      refine ⟨_, rfl, _, _, rfl, rfl, (by show (0 : Int) ≤ 7 ∧ (7 : Int) ≤ 1000000 ∧ (10 : Int).natAbs < 2 ^ 64; decide), _, _, rfl, rfl, .inr (by decide), _, rfl, _, _, rfl, rfl, (by show (0 : Int) ≤ 7 ∧ (7 : Int) ≤ 1000000 ∧ (10 : Int).natAbs < 2 ^ 64; decide), a, cl, 10000000, rfl, f1, by decide, by decide, fun y G2 y0 y1 f2 b2 => ?_⟩
      refine ⟨_, _, rfl, rfl, _, _, rfl, ?_, ?_, f2, b1.trans b2⟩
      · show 0 ≤ x * 10000000 + y
        omega
      · show x * 10000000 + y < 10000000 ^ (i + 1)
        rw [Int.pow_succ]
        omega
    · rintro σ G ⟨x, o2, rfl, x0, x1, f1, b1⟩
      refine ⟨_, rfl, .inl ⟨_, rfl, ?_⟩⟩
      refine ⟨_, _, rfl, rfl, (by show (0 : Int) ≤ 20 ∧ (20 : Int) ≤ 1000000 ∧ (10 : Int).natAbs < 2 ^ 64; decide), _, _, rfl, rfl, _, _, rfl, rfl, (by show (0 : Int) < 10 ^ 20 - 1; decide), _, _, rfl, rfl, ?_⟩
      have eT : (10 : Int) ^ Int.toNat 20 - 1 = 99999999999999999999 := by decide
      show Q (.int (1 + x % ((10 : Int) ^ Int.toNat 20 - 1))) G
      rw [eT]
      have e0 := Int.emod_nonneg x (show (99999999999999999999 : Int) ≠ 0 by decide)
      have e1 := Int.emod_lt_of_pos x (show (0 : Int) < 99999999999999999999 by decide)
      exact kk _ G (by omega) (show (1 + x % 99999999999999999999).natAbs < 2 ^ 70 by omega) f1 b1
end
end RX

set_option Elab.async false
set_option maxRecDepth 100000
namespace RX
open PySem L2 LX VA VM VN
open RQ (Hg Bt)
/-! ### lists that are changed in place -/
/-- tuples stay, and so does all but what W holds -/
structure Fr (W : Addr → Prop) (H H' : Hp) : Prop where
  t : ∀ c xs, H c = some (.tup xs) → H' c = some (.tup xs)
  k : Keep W H H'
section
variable {W W' : Addr → Prop} {H H1 H' : Hp}
theorem Fr.refl : Fr W H H := ⟨fun _ _ h => h, Keep.refl⟩
theorem Fr.trans (x : Fr W H H1) (y : Fr W H1 H') : Fr W H H' := ⟨fun c xs h => y.t c xs (x.t c xs h), x.k.trans y.k⟩
theorem Same.fr (s : Same H H') : Fr W H H' := ⟨fun c xs h => s c _ h, Same.keep s⟩
theorem Fr.more (x : Fr W H H') (s : ∀ b, W b → W' b) : Fr W' H H' := ⟨x.t, x.k.more s⟩
theorem Fr.updL {D : Addr} {o : HO} {ys : List V} (h : W D) (l : H D = some (.lst ys)) : Fr W H (upd H D o) := ⟨fun c xs e => by
  rw [upd_ne (fun z => by rw [z, l] at e; cases e)]
  exact e, Keep.upd h⟩
theorem Fr.but {a cl : Addr} (b : But a H H') (f : FeedAt H a cl) (f' : FeedAt H' a cl) : Fr (K1 a) H H' := ⟨fun c xs h => b c _ h (fun z => by
  obtain ⟨_, _, _, _, _, f⟩ := f
  rw [z, f.hA] at h
  cases h), keep_feed b f'⟩
theorem Fr.get {b : Addr} {o : HO} (x : Fr W H H') (h : H b = some o) (n : ¬ W b) : H' b = some o := x.k.k b o h n
/-- what is new may be changed as well -/
theorem Fr.drop {D : Addr} (x : Fr (And1 W D) H H') (n : H D = none) : Fr W H H' := ⟨x.t, ⟨fun b o h m => x.k.k b o h fun z => z.elim m (fun e => by rw [e, n] at h; cases h), x.k.a⟩⟩
theorem Fr.dropS {F : Addr → Prop} (x : Fr W H H') (s : ∀ b, W b → F b ∨ H b = none) : Fr F H H' := ⟨x.t, ⟨fun b o h m => x.k.k b o h fun z => (s b z).elim m (fun e => by rw [e] at h; cases h), x.k.a⟩⟩
theorem FeedAt.fr {a cl : Addr} (f : FeedAt H a cl) (x : Fr W H H') (n : ¬ W a) (m : ¬ W cl) : FeedAt H' a cl := by
  obtain ⟨cs, i, p, t, s, f⟩ := f
  exact ⟨cs, i, p, t, s, x.get f.hA n, x.get f.hC m, f.ne, f.i0, f.p0, f.s0, f.s1, f.len, f.nn⟩
end
theorem at_pr {C : Addr} {N : Addr → Prop} {H : Hp} {p : Addr} {q : Rat} (h : At C N H (.ref p) (prD q)) : PrQ H p q := by
  obtain ⟨_, e, h, _⟩ := h.pair
  cases e
  exact h
/-- n pairs, told one by one -/
structure RowE (H : Hp) (a : Addr) (n : Nat) (u : Nat → Rat) : Prop where
  ex : ∃ xs, H a = some (.lst xs) ∧ xs.length = n ∧ ∀ j, j < n → ∃ p, xs[j]? = some (.ref p) ∧ PrQ H p (u j)
section
variable {W : Addr → Prop} {H H' : Hp} {u v : Nat → Rat} {n : Nat} {a : Addr}
theorem RowE.fr (h : RowE H a n u) (f : Fr W H H') (m : ¬ W a) : RowE H' a n u := by
  obtain ⟨xs, h, l, e⟩ := h.ex
  exact ⟨xs, f.get h m, l, fun j hj => let ⟨p, e1, e2⟩ := e j hj; ⟨p, e1, f.t _ _ e2⟩⟩
theorem RowE.same (h : RowE H a n u) (f : Same H H') : RowE H' a n u := h.fr (Same.fr (W := Emp) f) id
theorem RowE.congr (h : RowE H a n u) (e : ∀ j, j < n → u j = v j) : RowE H a n v := by
  obtain ⟨xs, h, l, k⟩ := h.ex
  exact ⟨xs, h, l, fun j hj => by rw [← e j hj]; exact k j hj⟩
theorem RowE.there (h : RowE H a n u) : H a ≠ none := by
  obtain ⟨xs, h, _⟩ := h.ex
  rw [h]; intro z; cases z
theorem RowE.get {i : Nat} (h : RowE H a n u) (hi : i < n) : ∃ xs p, H a = some (.lst xs) ∧ xs.length = n ∧ xs[i]? = some (.ref p) ∧ PrQ H p (u i) := by
  obtain ⟨xs, h, l, e⟩ := h.ex
  obtain ⟨p, e1, h1⟩ := e i hi
  exact ⟨xs, p, h, l, e1, h1⟩
/-- one place anew -/
def put (u : Nat → Rat) (i : Nat) (q : Rat) : Nat → Rat := fun j => if j = i then q else u j
theorem RowE.set {xs : List V} {p : Addr} {q : Rat} {i : Nat} (h : RowE H a n u) (hx : H a = some (.lst xs)) (hv : PrQ H p q) (hi : i < n) : RowE (upd H a (.lst (xs.set i (.ref p)))) a n (put u i q) := by
  obtain ⟨ys, h, l, e⟩ := h.ex
  rw [hx] at h
  obtain rfl : xs = ys := by injection h with h; injection h
  have f : Fr (K1 a) H (upd H a (.lst (xs.set i (.ref p)))) := Fr.updL rfl hx
  refine ⟨_, upd_same, by rw [List.length_set, l], fun j hj => ?_⟩
  by_cases ej : j = i
  · subst ej
    refine ⟨p, by rw [List.getElem?_set]; simp [l, hi], ?_⟩
    unfold put
    rw [if_pos rfl]
    exact f.t _ _ hv
  · obtain ⟨p2, e1, h1⟩ := e j hj
    refine ⟨p2, by rw [List.getElem?_set_ne (Ne.symm ej)]; exact e1, ?_⟩
    unfold put
    rw [if_neg ej]
    exact f.t _ _ h1
theorem RowE.push {xs : List V} {p : Addr} {q : Rat} (h : RowE H a n u) (hx : H a = some (.lst xs)) (hv : PrQ H p q) : RowE (upd H a (.lst (xs ++ [.ref p]))) a (n + 1) (ext u n q) := by
  obtain ⟨ys, h, l, e⟩ := h.ex
  rw [hx] at h
  obtain rfl : xs = ys := by injection h with h; injection h
  have f : Fr (K1 a) H (upd H a (.lst (xs ++ [.ref p]))) := Fr.updL rfl hx
  refine ⟨_, upd_same, by rw [List.length_append, l]; rfl, fun j hj => ?_⟩
  by_cases ej : j = n
  · subst ej
    refine ⟨p, by rw [List.getElem?_append_right (by omega), l]; simp, ?_⟩
    rw [ext_same]
    exact f.t _ _ hv
  · obtain ⟨p2, e1, h1⟩ := e j (by omega)
    refine ⟨p2, by rw [List.getElem?_append_left (by omega)]; exact e1, ?_⟩
    rw [ext_lt u q (by omega)]
    exact f.t _ _ h1
theorem RowE.at {C : Addr} (h : RowE H a n u) : At C Emp H (.ref a) (prL n u) := by
  obtain ⟨xs, h, l, e⟩ := h.ex
  refine .lst h id (by rw [rng_len, l]) fun i x d hx hd => ?_
  obtain ⟨hi, rfl⟩ := rng_lt hd
  obtain ⟨p, e1, h1⟩ := e i hi
  rw [e1] at hx
  obtain rfl := Option.some.inj hx
  exact at_pair h1 id
theorem RowE.of {C : Addr} {N : Addr → Prop} (h : At C N H (.ref a) (prL n u)) : RowE H a n u := by
  obtain ⟨xs, hx, l, e⟩ := At.lstR h
  refine ⟨xs, hx, l, fun i hi => ?_⟩
  obtain ⟨y, hy, hd⟩ := e i hi
  obtain ⟨p, rfl, hp, _⟩ := hd.pair
  exact ⟨p, hy, hp⟩
end
/-- h rows of n pairs at p, at their addresses; all of them in O -/
structure TabE (H : Hp) (O : Addr → Prop) (p : Addr) (h n : Nat) (ra : Nat → Addr) (U : Nat → Nat → Rat) : Prop where
  hp : H p = some (.lst ((List.range h).map fun i => V.ref (ra i)))
  op : O p
  orr : ∀ i, i < h → O (ra i)
  ne : ∀ i, i < h → ra i ≠ p
  inj : ∀ i, i < h → ∀ j, j < h → ra i = ra j → i = j
  rows : ∀ i, i < h → RowE H (ra i) n (U i)
  al : Alc O H
section
variable {W O O' : Addr → Prop} {H H' : Hp} {U V' : Nat → Nat → Rat} {h n : Nat} {p : Addr} {ra : Nat → Addr}
theorem TabE.fr (t : TabE H O p h n ra U) (f : Fr W H H') (m : ∀ b, O b → ¬ W b) : TabE H' O p h n ra U :=
  ⟨f.get t.hp (m _ t.op), t.op, t.orr, t.ne, t.inj, fun i hi => (t.rows i hi).fr f (m _ (t.orr i hi)), t.al.keep f.k⟩
theorem TabE.same (t : TabE H O p h n ra U) (f : Same H H') : TabE H' O p h n ra U := t.fr (Same.fr (W := Emp) f) fun _ _ => id
theorem TabE.congr (t : TabE H O p h n ra U) (f : ∀ i, i < h → ∀ j, j < n → U i j = V' i j) : TabE H O p h n ra V' := ⟨t.hp, t.op, t.orr, t.ne, t.inj, fun i hi => (t.rows i hi).congr (f i hi), t.al⟩
theorem TabE.into (t : TabE H O p h n ra U) (s : ∀ b, O b → O' b) (a : Alc O' H) : TabE H O' p h n ra U := ⟨t.hp, s _ t.op, fun i hi => s _ (t.orr i hi), t.ne, t.inj, t.rows, a⟩
theorem TabE.at {C : Addr} (t : TabE H O p h n ra U) : At C Emp H (.ref p) (prT h n U) := by
  refine .lst t.hp id (by rw [rng_len, List.length_map, List.length_range]) fun i x d hx hd => ?_
  obtain ⟨hi, rfl⟩ := rng_lt hd
  rw [List.getElem?_map, List.getElem?_range hi] at hx
  obtain rfl := Option.some.inj hx
  exact (t.rows i hi).at
theorem TabR.get {i : Nat} (hi : i < h) : ((List.range h).map fun i => V.ref (ra i))[i]? = some (.ref (ra i)) := by
  rw [List.getElem?_map, List.getElem?_range hi]
  rfl
end
end RX

set_option Elab.async false
set_option maxRecDepth 100000
namespace RX
open PySem L2 LX VA VM VN
open RQ (Hg Bt)
abbrev sRight : Stmt := topS 53
theorem scRi : FnScope ["rows", "deed", "kind", "at", "row", "first"] ["rows", "deed"] (defScope sRight) := ⟨rfl, rfl, rfl, by decide +kernel, rfl, by decide +kernel, by decide +kernel⟩
inductive Knd | add | scale | swap | none
def Knd.s : Knd → Str
  | .add => "add"
  | .scale => "scale"
  | .swap => "swap"
  | .none => "none"
/-- a deed: its kind, two places, a factor -/
structure DeedAt (H : Hp) (d : Addr) (kd : Knd) (i j : Nat) (f : Rat) : Prop where
  ex : ∃ fp, H d = some (.tup [.str kd.s, .int (i : Int), .int (j : Int), .ref fp]) ∧ PrQ H fp f
theorem DeedAt.fr {W : Addr → Prop} {H H' : Hp} {d : Addr} {kd : Knd} {i j : Nat} {f : Rat} (h : DeedAt H d kd i j f) (x : Fr W H H') : DeedAt H' d kd i j f := let ⟨fp, a, b⟩ := h.ex; ⟨fp, x.t _ _ a, x.t _ _ b⟩
def Fac (f : Rat) : Prop := f ≠ 0 ∧ f.num.natAbs ≤ 3 ∧ f.den ≤ 3
/-- what a deed makes of a row, of the rows of a table -/
def rgt (kd : Knd) (i j : Nat) (f : Rat) (u : Nat → Rat) : Nat → Rat := match kd with
  | .add => put u j (u j + f * u i)
  | .scale => put u i (u i * f)
  | .swap => put (put u i (u j)) j (u i)
  | .none => u
theorem Fac.hg {f : Rat} (h : Fac f) : HgQ f := ⟨⟨2, by decide, show f.num.natAbs < 2 ^ 2 by have := h.2.1; omega⟩, ⟨2, by decide, show ((f.den : Int)).natAbs < 2 ^ 2 by have := h.2.2; omega⟩⟩
theorem knd_ne {a b : Str} (h : (a == b) = false) : decide (V.str a = V.str b) = false := decide_eq_false fun z => by
  injection z with z
  rw [z] at h
  simp at h
theorem knd_eq {a : Str} : decide (V.str a = V.str a) = true := decide_eq_true rfl
def spRi (C : Addr) : Sp := fun vs H Q _ => ∃ (O : Addr → Prop) (p d : Addr) (h n : Nat) (ra : Nat → Addr) (U : Nat → Nat → Rat) (kd : Knd) (i j : Nat) (f : Rat), vs = [.ref p, .ref d] ∧ TabE H O p h n ra U ∧ DeedAt H d kd i j f ∧ i < n ∧ j < n ∧ h ≤ 1000 ∧ n ≤ 1000 ∧ (∀ r, r < h → ∀ x, x < n → HgQ (U r x) ∧ HgQ (f * U r x)) ∧ Fac f ∧
  ∀ (H' : Hp), Fr O H H' → TabE H' O p h n ra (fun r => rgt kd i j f (U r)) → Q .non H'
/-- some rows are done -/
structure Mid (H : Hp) (p : Addr) (h n : Nat) (ra : Nat → Addr) (U U' : Nat → Nat → Rat) (k : Nat) : Prop where
  hp : H p = some (.lst ((List.range h).map fun i => V.ref (ra i)))
  a : ∀ i, i < k → i < h → RowE H (ra i) n (U' i)
  b : ∀ i, k ≤ i → i < h → RowE H (ra i) n (U i)
theorem Mid.same {H H' : Hp} {p : Addr} {h n k : Nat} {ra : Nat → Addr} {U U' : Nat → Nat → Rat} (m : Mid H p h n ra U U' k) (s : Same H H') : Mid H' p h n ra U U' k := ⟨s _ _ m.hp, fun i a b => (m.a i a b).same s, fun i a b => (m.b i a b).same s⟩
theorem Mid.step {H0 H H' : Hp} {O : Addr → Prop} {p : Addr} {h n k : Nat} {ra : Nat → Addr} {U U' : Nat → Nat → Rat} (m : Mid H p h n ra U U' k) (t : TabE H0 O p h n ra U) (hk : k < h) (f : Fr (K1 (ra k)) H H') (r : RowE H' (ra k) n (U' k)) : Mid H' p h n ra U U' (k + 1) := by
  refine ⟨f.get m.hp fun z => t.ne k hk z.symm, fun i h1 h2 => ?_, fun i h1 h2 => ?_⟩
  · by_cases e : i = k
    · rw [e]; exact r
    · exact (m.a i (by omega) h2).fr f fun z => e (t.inj i h2 k hk z)
  · exact (m.b i (by omega) h2).fr f fun z => absurd (t.inj i h2 k hk z) (by omega)
section
variable {P : Program} {w : World} {K : PySem.W.Frag} {mg : Str → Option Value} {base : Heap}
theorem ok_ri {f fP fB C : Addr} {fd dP dB : FuncData} (F : Fun K "_law_right" "_law_right" sRight f fd) (T : TxtL mg) (cPl : CalN P w K mg base "_law_plus" 34 ["one", "two"] (spPlu C) fP dP) (cBy : CalN P w K mg base "_law_by" 34 ["one", "two"] (spBy C) fB dB) : FnOk P w K mg base CX0 35 f fd ["rows", "deed"] (spRi C) := by
  refine F.ok scRi (fun vs H Q E h => ?_) (fun cdv A outer s H vs Q E hr h => ?_)
  · obtain ⟨O, p, d, h, n, ra, U, kd, i, j, f, rfl, _⟩ := h
    rfl
  · obtain ⟨O, p, d, h, n, ra, U, kd, i, j, g, rfl, t, hd, hi, hj, hh, hn, st, fa, kk⟩ := h
    have hr34 : Room 34 _ := hr
    obtain ⟨fp, hD, hF⟩ := hd.ex
    refine ⟨_, pss_cons (ps_set (i := 2) scRi.nd rfl (.inl rfl) (pe_ix ix_tup (pv 1) pe_int (fun _ _ => rfl)))
      (pss_one (ps_for PassesOwn.never rfl (pi_range1 (by rfl) T.range (pa_cons (pe_callB call_len_seq (by rfl) T.len PySem.boot_len (pa_cons (pv 0) pa_nil)) pa_nil)) (pg_name (i := 3) scRi.nd rfl (.inl rfl))
        (pss_cons (ps_set (i := 4) scRi.nd rfl (.inl rfl) (pe_ix ix_list (pv 0) (pv 3) (fun _ _ => rfl)))
        (pss_cons (ps_set (i := 5) scRi.nd rfl (.inl rfl) (pe_ix ix_list (pv 4) (pe_ix ix_tup (pv 1) pe_int (fun _ _ => rfl)) (fun _ _ => rfl)))
        (pss_cons (ps_if (pt_cmpR op_eq (pv 2) pe_str (nomark _))
          (pss_one (ps_asg (pe_call cPl.G hr34 rfl cPl.m cPl.kp cPl.b .nil pass0 (pa_cons (pe_ix ix_list (pv 4) (pe_ix ix_tup (pv 1) pe_int (fun _ _ => rfl)) (fun _ _ => rfl)) (pa_cons (pe_call cBy.G hr34 rfl cBy.m cBy.kp cBy.b .nil pass0 (pa_cons (pe_ix ix_tup (pv 1) pe_int (fun _ _ => rfl)) (pa_cons (pv 5) pa_nil))) pa_nil))) (pg_sub (pv 4) (pe_ix ix_tup (pv 1) pe_int (fun _ _ => rfl)) set_list)))
          pss_nil)
        (pss_cons (ps_if (pt_cmpR op_eq (pv 2) pe_str (nomark _))
          (pss_one (ps_asg (pe_call cBy.G hr34 rfl cBy.m cBy.kp cBy.b .nil pass0 (pa_cons (pv 5) (pa_cons (pe_ix ix_tup (pv 1) pe_int (fun _ _ => rfl)) pa_nil))) (pg_sub (pv 4) (pe_ix ix_tup (pv 1) pe_int (fun _ _ => rfl)) set_list)))
          pss_nil)
        (pss_one (ps_if (pt_cmpR op_eq (pv 2) pe_str (nomark _))
          (pss_cons (ps_asg (pe_ix ix_list (pv 4) (pe_ix ix_tup (pv 1) pe_int (fun _ _ => rfl)) (fun _ _ => rfl)) (pg_sub (pv 4) (pe_ix ix_tup (pv 1) pe_int (fun _ _ => rfl)) set_list))
          (pss_one (ps_asg (pv 5) (pg_sub (pv 4) (pe_ix ix_tup (pv 1) pe_int (fun _ _ => rfl)) set_list))))
          pss_nil)))))))), ?_⟩
    refine ⟨_, rfl, d, _, 0, _, rfl, rfl, SqT.of hD, rfl, ?_⟩
    refine ⟨_, rfl, p, _, rfl, .inl (SqL.of t.hp), _, rfl, by rw [List.length_map, List.length_range]; omega, by rw [List.length_map, List.length_range]; omega, for_range (n := ((List.range h).map fun i => V.ref (ra i)).length) (fun r σ G => ∃ o3 o4 o5, σ = [some (.ref p), some (.ref d), some (.str kd.s), o3, o4, o5] ∧ Fr O H G ∧ Mid G p h n ra U (fun r => rgt kd i j g (U r)) r) ⟨none, none, none, rfl, Fr.refl, t.hp, fun i a => absurd a (by omega), fun i _ b => t.rows i b⟩ ?_ ?_⟩
    · rintro r σ G hrr ⟨o3, o4, o5, rfl, f1, md⟩
      rw [List.length_map, List.length_range] at hrr
      have row := md.b r (Nat.le_refl _) hrr
      obtain ⟨xs, p1, hx, lx, hx1, hp1⟩ := row.get hi
      obtain ⟨xs', p2, hx', _, hx2, hp2⟩ := row.get hj
      have st1 := st r hrr i hi
      have st2 := st r hrr j hj
      rw [hx] at hx'
      obtain rfl : xs = xs' := by injection hx' with z; injection z
      have dG := f1.t _ _ hD
      have fG := f1.t _ _ hF
      have KO : ∀ b, K1 (ra r) b → O b := fun b z => by rw [z]; exact t.orr r hrr
      refine ⟨_, rfl, _, rfl, p, _, _, _, rfl, rfl, SqL.of md.hp, at_of (Int.zero_add _) (TabR.get hrr), ?_⟩
      refine ⟨_, rfl, _, rfl, d, _, 1, _, rfl, rfl, SqT.of dG, rfl, ra r, xs, _, _, rfl, rfl, SqL.of hx, at_of rfl hx1, ?_⟩
      cases kd with
      | add =>
        refine ⟨_, rfl, rfl, _, rfl, itT knd_eq ?_⟩
        refine ⟨_, rfl, _, rfl, d, _, 2, _, rfl, rfl, SqT.of dG, rfl, ra r, xs, _, _, rfl, rfl, SqL.of hx, at_of rfl hx2, _, rfl, d, _, 3, _, rfl, rfl, SqT.of dG, rfl, _, rfl, Emp, fp, p1, g, U r i, rfl, at_pair fG id, at_pair hp1 id, alc_emp, fa.hg, st1.1, fun r1 G1 s1 hr1 => ?_⟩
        refine ⟨Emp, p2, r1, U r j, g * U r i, rfl, at_pair (hp2.same s1) id, hr1, alc_emp, st2.1, st1.2, fun r2 G2 s2 hr2 => ?_⟩
        have s12 := s1.trans s2
        refine ⟨_, rfl, _, rfl, d, _, 2, _, rfl, rfl, SqT.of (s12 _ _ dG), rfl, ra r, xs, (j : Int), j, rfl, rfl, s12 _ _ hx, ixN_at rfl (by omega), ?_⟩
        have f2 : Fr (K1 (ra r)) G (upd G2 (ra r) (.lst (xs.set j (.ref r2)))) := (Same.fr s12).trans (Fr.updL rfl (s12 _ _ hx))
        have row2 : RowE (upd G2 (ra r) (.lst (xs.set j (.ref r2)))) (ra r) n (rgt .add i j g (U r)) := (row.same s12).set (s12 _ _ hx) (at_pr hr2) hj
        refine ⟨_, rfl, rfl, _, rfl, itF (knd_ne rfl) ?_⟩
        refine ⟨_, rfl, rfl, _, rfl, itF (knd_ne rfl) ?_⟩
        exact ⟨_, _, _, rfl, f1.trans (f2.more KO), md.step t hrr f2 row2⟩
      | scale =>
        refine ⟨_, rfl, rfl, _, rfl, itF (knd_ne rfl) ?_⟩
        refine ⟨_, rfl, rfl, _, rfl, itT knd_eq ?_⟩
        refine ⟨_, rfl, _, rfl, d, _, 3, _, rfl, rfl, SqT.of dG, rfl, Emp, p1, fp, U r i, g, rfl, at_pair hp1 id, at_pair fG id, alc_emp, st1.1, fa.hg, fun r2 G2 s12 hr2 => ?_⟩
        refine ⟨_, rfl, _, rfl, d, _, 1, _, rfl, rfl, SqT.of (s12 _ _ dG), rfl, ra r, xs, (i : Int), i, rfl, rfl, s12 _ _ hx, ixN_at rfl (by omega), ?_⟩
        have f2 : Fr (K1 (ra r)) G (upd G2 (ra r) (.lst (xs.set i (.ref r2)))) := (Same.fr s12).trans (Fr.updL rfl (s12 _ _ hx))
        have row2 : RowE (upd G2 (ra r) (.lst (xs.set i (.ref r2)))) (ra r) n (rgt .scale i j g (U r)) := (row.same s12).set (s12 _ _ hx) (at_pr hr2) hi
        refine ⟨_, rfl, rfl, _, rfl, itF (knd_ne rfl) ?_⟩
        exact ⟨_, _, _, rfl, f1.trans (f2.more KO), md.step t hrr f2 row2⟩
      | swap =>
        refine ⟨_, rfl, rfl, _, rfl, itF (knd_ne rfl) ?_⟩
        refine ⟨_, rfl, rfl, _, rfl, itF (knd_ne rfl) ?_⟩
        refine ⟨_, rfl, rfl, _, rfl, itT knd_eq ?_⟩
        refine ⟨_, rfl, _, rfl, d, _, 2, _, rfl, rfl, SqT.of dG, rfl, ra r, xs, _, _, rfl, rfl, SqL.of hx, at_of rfl hx2, _, rfl, _, rfl, d, _, 1, _, rfl, rfl, SqT.of dG, rfl, ra r, xs, (i : Int), i, rfl, rfl, hx, ixN_at rfl (by omega), ?_⟩
        have f2 : Fr (K1 (ra r)) G (upd G (ra r) (.lst (xs.set i (.ref p2)))) := Fr.updL rfl hx
        have row2 : RowE (upd G (ra r) (.lst (xs.set i (.ref p2)))) (ra r) n (put (U r) i (U r j)) := row.set hx hp2 hi
        have hx3 : (upd G (ra r) (.lst (xs.set i (.ref p2)))) (ra r) = some (.lst (xs.set i (.ref p2))) := upd_same
        generalize upd G (ra r) (.lst (xs.set i (.ref p2))) = G2 at *
        refine ⟨_, rfl, _, rfl, _, rfl, d, _, 2, _, rfl, rfl, SqT.of (f2.t _ _ dG), rfl, ra r, xs.set i (.ref p2), (j : Int), j, rfl, rfl, hx3, ixN_at rfl (by rw [List.length_set]; omega), ?_⟩
        have f3 : Fr (K1 (ra r)) G (upd G2 (ra r) (.lst ((xs.set i (.ref p2)).set j (.ref p1)))) := f2.trans (Fr.updL rfl hx3)
        exact ⟨_, _, _, rfl, f1.trans (f3.more KO), md.step t hrr f3 (row2.set hx3 (f2.t _ _ hp1) hj)⟩
      | none =>
        refine ⟨_, rfl, rfl, _, rfl, itF (knd_ne rfl) ?_⟩
        refine ⟨_, rfl, rfl, _, rfl, itF (knd_ne rfl) ?_⟩
        refine ⟨_, rfl, rfl, _, rfl, itF (knd_ne rfl) ?_⟩
        exact ⟨_, _, _, rfl, f1, md.step t hrr Fr.refl row⟩
    · rintro σ G ⟨o3, o4, o5, rfl, f1, md⟩
      rw [List.length_map, List.length_range] at md
      exact kk G f1 ⟨md.hp, t.op, t.orr, t.ne, t.inj, fun i hi => md.a i hi hi, t.al.keep f1.k⟩
end
end RX

set_option Elab.async false
set_option maxRecDepth 100000
namespace RX
open PySem L2 LX VA VM VN
open RQ (Hg Bt)
abbrev sLeft : Stmt := topS 54
theorem scLe : FnScope ["rows", "deed", "kind", "factor", "first", "second", "less", "k", "number"] ["rows", "deed"] (defScope sLeft) := ⟨rfl, rfl, rfl, by decide +kernel, rfl, by decide +kernel, by decide +kernel⟩
theorem Fac.neg {f : Rat} (h : Fac f) : Fac (-f) := ⟨fun z => h.1 (by rw [← Rat.neg_neg f, z]; rfl), by rw [Rat.neg_num]; have := h.2.1; omega, by rw [Rat.neg_den]; exact h.2.2⟩
theorem num_ne {f : Rat} (h : f ≠ 0) : f.num ≠ 0 := fun z => h (RQ.num0.mp z)
theorem inv_eq {f : Rat} (h : f ≠ 0) : (((f.den : Int) : Int) : Rat) = f⁻¹ * ((f.num : Int) : Rat) := by
  rw [RQ.nd f, ← Rat.mul_assoc, Rat.inv_mul_cancel f h, Rat.one_mul]
theorem Fac.inv {f : Rat} (h : Fac f) : Fac f⁻¹ := by
  have e := inv_eq h.1
  obtain ⟨e1, e2⟩ := RQ.low (num_ne h.1) e
  refine ⟨fun z => h.1 (by rw [← Rat.inv_inv f, z]; exact Rat.inv_zero), ?_, ?_⟩
  · rw [← e1]
    have := RT.top_le (t := (f.den : Int)) (num_ne h.1)
    have := h.2.2
    omega
  · have h3 := RT.bot_le (t := (f.den : Int)) (num_ne h.1)
    rw [e2] at h3
    have := h.2.1
    omega
/-- what a deed makes of the rows of a table -/
def lft (kd : Knd) (i j : Nat) (f : Rat) (U : Nat → Nat → Rat) : Nat → Nat → Rat := match kd with
  | .add => fun r => if r = i then fun k => U i k + -f * U j k else U r
  | .scale => fun r => if r = i then fun k => U i k * f⁻¹ else U r
  | .swap => fun r => if r = j then U i else if r = i then U j else U r
  | .none => U
theorem set_map {h i : Nat} {ra : Nat → Addr} {D : Addr} (hi : i < h) : ((List.range h).map fun r => V.ref (ra r)).set i (.ref D) = (List.range h).map fun r => V.ref (if r = i then D else ra r) := by
  refine List.ext_getElem? fun k => ?_
  rw [List.getElem?_set, List.getElem?_map, List.getElem?_map, List.length_map, List.length_range]
  by_cases e : i = k
  · subst e
    rw [if_pos rfl, if_pos hi, List.getElem?_range hi]
    simp
  · rw [if_neg e]
    by_cases hk : k < h
    · rw [List.getElem?_range hk]
      simp [Ne.symm e]
    · rw [List.getElem?_eq_none (by rw [List.length_range]; omega)]
      rfl
/-- a row is put in place of another -/
theorem TabE.put {H H' : Hp} {O : Addr → Prop} {p D : Addr} {h n i : Nat} {ra : Nat → Addr} {U : Nat → Nat → Rat} {v : Nat → Rat} (t : TabE H O p h n ra U) (hi : i < h) (nD : H D = none) (s : Same H H') (r : RowE H' D n v) :
    TabE (upd H' p (.lst (((List.range h).map fun i => V.ref (ra i)).set i (.ref D)))) (And1 O D) p h n (fun r => if r = i then D else ra r) (fun r => if r = i then v else U r) := by
  have hp' := s _ _ t.hp
  have pD : D ≠ p := (ne_of_none t.hp nD).symm
  have f : Fr (K1 p) H' (upd H' p (.lst (((List.range h).map fun i => V.ref (ra i)).set i (.ref D)))) := Fr.updL rfl hp'
  have oD : ∀ k, k < h → ra k ≠ D := fun k hk z => by
    have := (t.rows k hk).there
    rw [z] at this
    exact this nD
  refine ⟨by rw [upd_same, set_map hi], .inl t.op, fun k hk => ?_, fun k hk => ?_, fun k hk l hl e => ?_, fun k hk => ?_, ?_⟩
  · show And1 O D (if k = i then D else ra k)
    split
    · exact .inr rfl
    · exact .inl (t.orr k hk)
  · show (if k = i then D else ra k) ≠ p
    split
    · exact pD
    · exact t.ne k hk
  · by_cases e1 : k = i
    · by_cases e2 : l = i
      · omega
      · rw [if_pos e1, if_neg e2] at e
        exact absurd e.symm (oD l hl)
    · by_cases e2 : l = i
      · rw [if_neg e1, if_pos e2] at e
        exact absurd e (oD k hk)
      · rw [if_neg e1, if_neg e2] at e
        exact t.inj k hk l hl e
  · show RowE _ (if k = i then D else ra k) n (if k = i then v else U k)
    by_cases e : k = i
    · rw [if_pos e, if_pos e]
      exact r.fr f fun z => pD z
    · rw [if_neg e, if_neg e]
      exact ((t.rows k hk).same s).fr f fun z => t.ne k hk z
  · exact ((t.al.keep (Same.keep (N := Emp) s)).and r.there).keep f.k
def spLe (C : Addr) : Sp := fun vs H Q _ => ∃ (O : Addr → Prop) (p d : Addr) (h n : Nat) (ra : Nat → Addr) (U : Nat → Nat → Rat) (kd : Knd) (i j : Nat) (f : Rat), vs = [.ref p, .ref d] ∧ TabE H O p h n ra U ∧ DeedAt H d kd i j f ∧ i < h ∧ j < h ∧ h ≤ 1000 ∧ n ≤ 1000 ∧ (∀ r, r < h → ∀ x, x < n → HgQ (U r x) ∧ HgQ (-f * U r x)) ∧ Fac f ∧
  ∀ (H' : Hp) (O' : Addr → Prop) (ra' : Nat → Addr), (∀ b, O' b → O b ∨ H b = none) → Fr O H H' → TabE H' O' p h n ra' (lft kd i j f U) → Q .non H'
section
variable {P : Program} {w : World} {K : PySem.W.Frag} {mg : Str → Option Value} {base : Heap}
theorem ok_le {f fP fB fL C : Addr} {fd dP dB dL : FuncData} (F : Fun K "_law_left" "_law_left" sLeft f fd) (T : TxtL mg) (cPl : CalN P w K mg base "_law_plus" 34 ["one", "two"] (spPlu C) fP dP) (cBy : CalN P w K mg base "_law_by" 34 ["one", "two"] (spBy C) fB dB) (cLo : CalN P w K mg base "_law_lowest" 33 ["top", "bottom"] spPairB fL dL) : FnOk P w K mg base CX0 35 f fd ["rows", "deed"] (spLe C) := by
  refine F.ok scLe (fun vs H Q E h => ?_) (fun cdv A outer s H vs Q E hr h => ?_)
  · obtain ⟨O, p, d, h, n, ra, U, kd, i, j, f, rfl, _⟩ := h
    rfl
  · obtain ⟨O, p, d, h, n, ra, U, kd, i, j, g, rfl, t, hd, hi, hj, hh, hn, st, fa, kk⟩ := h
    have hr34 : Room 34 _ := hr
    have hr33 : Room 33 _ := hr.mono (by decide)
    obtain ⟨fp, hD, hF⟩ := hd.ex
    have hu := (t.rows i hi).at (C := C)
    have su := st i hi
    have hv := (t.rows j hj).at (C := C)
    have sv := st j hj
    obtain ⟨xs, hx, lx, ex⟩ := At.lstR hu
    obtain ⟨ys, hy, ly, ey⟩ := At.lstR hv
    have pt : PairAt H fp g.num (g.den : Int) := hF
    refine ⟨_, pss_cons (ps_set (i := 2) scLe.nd rfl (.inl rfl) (pe_ix ix_tup (pv 1) pe_int (fun _ _ => rfl)))
      (pss_cons (ps_set (i := 3) scLe.nd rfl (.inr rfl) (pe_ix ix_tup (pv 1) pe_int (fun _ _ => rfl)))
      (pss_cons (ps_set (i := 4) scLe.nd rfl (.inr rfl) (pe_ix ix_list (pv 0) (pe_ix ix_tup (pv 1) pe_int (fun _ _ => rfl)) (fun _ _ => rfl)))
      (pss_cons (ps_set (i := 5) scLe.nd rfl (.inr rfl) (pe_ix ix_list (pv 0) (pe_ix ix_tup (pv 1) pe_int (fun _ _ => rfl)) (fun _ _ => rfl)))
      (pss_cons (ps_if (pt_cmpR op_eq (pv 2) pe_str (nomark _))
        (pss_cons (ps_set (i := 6) scLe.nd rfl (.inr rfl) (pe_tup (pa_cons (pe_op op_sub pe_int (pe_ix ix_tup (pv 3) pe_int (fun _ _ => rfl))) (pa_cons (pe_ix ix_tup (pv 3) pe_int (fun _ _ => rfl)) pa_nil))))
        (pss_one (ps_asg (pe_lc (own := [("k", 7)]) (g := gName 7) (tt := tYes) rfl scLe.nd (pi_range1 (by rfl) T.range (pa_cons (pe_callB call_len_seq (by rfl) T.len PySem.boot_len (pa_cons (pv 4) pa_nil)) pa_nil)) (blkOk_by (N := ["rows", "deed", "kind", "factor", "first", "second", "less", "k", "number"]) (sc := (defScope sLeft)) (by decide +kernel)) (fun _ _ _ _ _ => (pg_name (i := 7) scLe.nd rfl (.inl rfl))) (fun _ _ _ _ _ => pts_nil) (fun _ _ _ _ _ => (pe_call cPl.G hr34 rfl cPl.m cPl.kp cPl.b .nil pass0 (pa_cons (pe_ix (show IxR _ (rIxL K) from ix_list) (pv 4) (pv 7) (fun _ _ => rfl)) (pa_cons (pe_call cBy.G hr34 rfl cBy.m cBy.kp cBy.b .nil pass0 (pa_cons (pv 6) (pa_cons (pe_ix (show IxR _ (rIxL K) from ix_list) (pv 5) (pv 7) (fun _ _ => rfl)) pa_nil))) pa_nil))))) (pg_sub (pv 0) (pe_ix ix_tup (pv 1) pe_int (fun _ _ => rfl)) set_list))))
        pss_nil)
      (pss_cons (ps_if (pt_cmpR op_eq (pv 2) pe_str (nomark _))
        (pss_one (ps_asg (pe_lc (own := [("number", 8)]) (g := gName 8) (tt := tYes) rfl scLe.nd (pi_list (pv 4)) (blkOk_by (N := ["rows", "deed", "kind", "factor", "first", "second", "less", "k", "number"]) (sc := (defScope sLeft)) (by decide +kernel)) (fun _ _ _ _ _ => (pg_name (i := 8) scLe.nd rfl (.inl rfl))) (fun _ _ _ _ _ => pts_nil) (fun _ _ _ _ _ => (pe_call cBy.G hr34 rfl cBy.m cBy.kp cBy.b .nil pass0 (pa_cons (pv 8) (pa_cons (pe_call cLo.G hr33 rfl cLo.m cLo.kp cLo.b .nil pass0 (pa_cons (pe_ix (show IxR _ (rIxT K) from ix_tup) (pv 3) pe_int (fun _ _ => rfl)) (pa_cons (pe_ix (show IxR _ (rIxT K) from ix_tup) (pv 3) pe_int (fun _ _ => rfl)) pa_nil))) pa_nil))))) (pg_sub (pv 0) (pe_ix ix_tup (pv 1) pe_int (fun _ _ => rfl)) set_list)))
        pss_nil)
      (pss_one (ps_if (pt_cmpR op_eq (pv 2) pe_str (nomark _))
        (pss_cons (ps_asg (pv 5) (pg_sub (pv 0) (pe_ix ix_tup (pv 1) pe_int (fun _ _ => rfl)) set_list))
        (pss_one (ps_asg (pv 4) (pg_sub (pv 0) (pe_ix ix_tup (pv 1) pe_int (fun _ _ => rfl)) set_list))))
        pss_nil))))))), ?_⟩
    refine ⟨_, rfl, d, _, 0, _, rfl, rfl, SqT.of hD, rfl, ?_⟩
    refine ⟨_, rfl, d, _, 3, _, rfl, rfl, SqT.of hD, rfl, ?_⟩
    refine ⟨_, rfl, _, rfl, d, _, 1, _, rfl, rfl, SqT.of hD, rfl, p, _, _, _, rfl, rfl, SqL.of t.hp, at_of rfl (TabR.get hi), ?_⟩
    refine ⟨_, rfl, _, rfl, d, _, 2, _, rfl, rfl, SqT.of hD, rfl, p, _, _, _, rfl, rfl, SqL.of t.hp, at_of rfl (TabR.get hj), ?_⟩
    -- a new row in the place i
    have give : ∀ (D : Addr) (G : Hp) (v : Nat → Rat), (lft kd i j g U = fun r => if r = i then v else U r) → H D = none → Same H G → RowE G D n v → Q .non (upd G p (.lst (((List.range h).map fun i => V.ref (ra i)).set i (.ref D)))) := fun D G v e nD s row => by
      have t2 := t.put hi nD s row
      rw [← e] at t2
      refine kk _ _ _ (fun b z => z.imp id fun e => by rw [e]; exact nD) ?_ t2
      exact ((Same.fr s).trans (Fr.updL t.op (s _ _ t.hp)))
    cases kd with
    | add =>
      refine ⟨_, rfl, rfl, _, rfl, itT knd_eq ?_⟩
      refine ⟨_, rfl, fp, _, 0, _, rfl, rfl, pt.t, rfl, _, _, rfl, rfl, _, rfl, fp, _, 1, _, rfl, rfl, pt.t, rfl, (by show 2 ≤ sizeLine; decide), fun lp nl => ?_⟩
      have s0 : Same H (upd H lp (.tup [.int (0 - g.num), .int (g.den : Int)])) := Same.upd nl
      have hl : PrQ (upd H lp (.tup [.int (0 - g.num), .int (g.den : Int)])) lp (-g) := by
        show upd _ _ _ lp = _
        rw [upd_same, Rat.neg_num, Rat.neg_den, Int.zero_sub]
      generalize upd H lp (.tup [.int (0 - g.num), .int (g.den : Int)]) = H1 at *
      have hx1 := s0 _ _ hx
      have hy1 := s0 _ _ hy
      refine ⟨_, rfl, ra i, xs, rfl, .inl (SqL.of hx1), _, rfl, by rw [lx]; omega, by rw [lx]; omega, fun D nD => ?_⟩
      have nDH := s0.free nD
      refine lc_it (walk_range (lo := 0) (n := xs.length)) (fun k G => Bld C Emp Emp H1 D (rng k fun k => prD (U i k + -g * U j k)) G) (bld0 nD) (fun _ _ _ _ => trivial) ?_ ?_
      · rintro k x G1 G2 hk bd ⟨rfl, rfl⟩
        rw [lx] at hk
        have s1 := bd.k.same
        obtain ⟨x1, hx2, dx⟩ := ex k hk
        obtain ⟨y1, hy2, dy⟩ := ey k hk
        have dx := bd.old nD (fun _ z => z.elim) (dx.same s0)
        have dy := bd.old nD (fun _ z => z.elim) (dy.same s0)
        have dl := bd.old nD (fun _ z => z.elim) (at_pair (C := C) (N := Emp) hl id)
        have al := bd.alc (N := Emp) alc_emp
        obtain ⟨p1, rfl, _⟩ := dx.pair
        obtain ⟨p2, rfl, _⟩ := dy.pair
        refine ⟨rfl, _, rfl, _, rfl, ra i, _, _, _, rfl, rfl, SqL.of (s1 _ _ hx1), at_of (Int.zero_add _) hx2, _, rfl, _, rfl, _, rfl, ra j, _, _, _, rfl, rfl, SqL.of (s1 _ _ hy1), at_of (Int.zero_add _) hy2, And1 Emp D, lp, p2, -g, U j k, rfl, dl, dy, al, fa.neg.hg, (sv k hk).1, fun r1 G3 s3 hr1 => ?_⟩
        refine ⟨And1 Emp D, p1, r1, U i k, -g * U j k, rfl, dx.same s3, hr1, al.keep (Same.keep (N := Emp) s3), (su k hk).1, (sv k hk).2, fun r2 G4 s4 hr2 => ?_⟩
        have s34 := s3.trans s4
        obtain ⟨acc, a1, a2, a3⟩ := bd.step nD (Same.keep s34) (fun _ z => z.elim) id hr2
        refine ⟨acc, a1, by rw [a2, rng_len]; exact small1000 (by omega), ?_⟩
        rw [rng_succ]
        exact a3
      · rintro G1 bd
        rw [lx] at bd
        have s1 := bd.k.same
        have row : RowE G1 D n (fun k => U i k + -g * U j k) := RowE.of (bd.done (fun z => z.elim))
        have s01 := s0.trans s1
        refine ⟨_, rfl, _, rfl, d, _, 1, _, rfl, rfl, SqT.of (s01 _ _ hD), rfl, p, _, (i : Int), i, rfl, rfl, s01 _ _ t.hp, ixN_at rfl (by rw [List.length_map, List.length_range]; exact hi), ?_⟩
        refine ⟨_, rfl, rfl, _, rfl, itF (knd_ne rfl) ?_⟩
        refine ⟨_, rfl, rfl, _, rfl, itF (knd_ne rfl) ?_⟩
        exact give D G1 _ rfl nDH s01 row
    | scale =>
      refine ⟨_, rfl, rfl, _, rfl, itF (knd_ne rfl) ?_⟩
      refine ⟨_, rfl, rfl, _, rfl, itT knd_eq ?_⟩
      refine ⟨_, rfl, ra i, rfl, ⟨_, SqL.of hx⟩, fun D nD => ?_⟩
      refine lc_it (walk_list (K := K) (a := ra i) (xs := xs)) (fun k G => Bld C Emp Emp H D (rng k fun k => prD (U i k * g⁻¹)) G) (bld0 nD) (fun i G _ b => SqL.of (b.k.same _ _ hx)) ?_ ?_
      · rintro k x G1 G2 hk bd ⟨rfl, hxk⟩
        rw [lx] at hk
        have s1 := bd.k.same
        obtain ⟨x1, hx2, dx⟩ := ex k hk
        rw [hx2] at hxk
        obtain rfl := Option.some.inj hxk
        have dx := bd.old nD (fun _ z => z.elim) dx
        have al := bd.alc (N := Emp) alc_emp
        obtain ⟨p1, rfl, _⟩ := dx.pair
        refine ⟨rfl, _, rfl, _, rfl, fp, _, 1, _, rfl, rfl, (pt.same s1).t, rfl, _, rfl, fp, _, 0, _, rfl, rfl, (pt.same s1).t, rfl, _, _, rfl, num_ne fa.1, fun r1 G3 s3 nr1 hr1 => ?_⟩
        obtain ⟨e1, e2⟩ := RQ.low (num_ne fa.1) (inv_eq fa.1)
        rw [e1, e2] at hr1
        have al3 := al.keep (Same.keep (N := Emp) s3)
        refine ⟨And1 Emp D, p1, r1, U i k, g⁻¹, rfl, dx.same s3, at_pair hr1 (al.fresh nr1), al3, (su k hk).1, fa.inv.hg, fun r2 G4 s4 hr2 => ?_⟩
        have s34 := s3.trans s4
        obtain ⟨acc, a1, a2, a3⟩ := bd.step nD (Same.keep s34) (fun _ z => z.elim) id hr2
        refine ⟨acc, a1, by rw [a2, rng_len]; exact small1000 (by omega), ?_⟩
        rw [rng_succ]
        exact a3
      · rintro G1 bd
        rw [lx] at bd
        have s1 := bd.k.same
        have row : RowE G1 D n (fun k => U i k * g⁻¹) := RowE.of (bd.done (fun z => z.elim))
        refine ⟨_, rfl, _, rfl, d, _, 1, _, rfl, rfl, SqT.of (s1 _ _ hD), rfl, p, _, (i : Int), i, rfl, rfl, s1 _ _ t.hp, ixN_at rfl (by rw [List.length_map, List.length_range]; exact hi), ?_⟩
        refine ⟨_, rfl, rfl, _, rfl, itF (knd_ne rfl) ?_⟩
        exact give D G1 _ rfl nD s1 row
    | swap =>
      refine ⟨_, rfl, rfl, _, rfl, itF (knd_ne rfl) ?_⟩
      refine ⟨_, rfl, rfl, _, rfl, itF (knd_ne rfl) ?_⟩
      refine ⟨_, rfl, rfl, _, rfl, itT knd_eq ?_⟩
      refine ⟨_, rfl, _, rfl, _, rfl, d, _, 1, _, rfl, rfl, SqT.of hD, rfl, p, _, (i : Int), i, rfl, rfl, t.hp, ixN_at rfl (by rw [List.length_map, List.length_range]; exact hi), ?_⟩
      have f1 : Fr O H (upd H p (.lst (((List.range h).map fun i => V.ref (ra i)).set i (.ref (ra j))))) := Fr.updL t.op t.hp
      have hp1 : (upd H p (.lst (((List.range h).map fun i => V.ref (ra i)).set i (.ref (ra j))))) p = some (.lst (((List.range h).map fun i => V.ref (ra i)).set i (.ref (ra j)))) := upd_same
      refine ⟨_, rfl, _, rfl, _, rfl, d, _, 2, _, rfl, rfl, SqT.of (f1.t _ _ hD), rfl, p, _, (j : Int), j, rfl, rfl, hp1, ixN_at rfl (by rw [List.length_set, List.length_map, List.length_range]; exact hj), ?_⟩
      have f2 : Fr (K1 p) H (upd (upd H p (.lst (((List.range h).map fun i => V.ref (ra i)).set i (.ref (ra j))))) p (.lst ((((List.range h).map fun i => V.ref (ra i)).set i (.ref (ra j))).set j (.ref (ra i))))) := (Fr.updL (W := K1 p) (show K1 p p from rfl) t.hp).trans (Fr.updL (W := K1 p) (show K1 p p from rfl) hp1)
      refine kk _ O (fun r => if r = j then ra i else if r = i then ra j else ra r) (fun b z => .inl z) (f2.more fun b z => by rw [z]; exact t.op) ⟨?_, t.op, fun k hk => ?_, fun k hk => ?_, fun k hk l hl e => ?_, fun k hk => ?_, t.al.keep f2.k⟩
      · rw [upd_same, set_map (ra := ra) hi, set_map (ra := fun r => if r = i then ra j else ra r) hj]
      · show O (if k = j then ra i else if k = i then ra j else ra k)
        split
        · exact t.orr i hi
        · split
          · exact t.orr j hj
          · exact t.orr k hk
      · show (if k = j then ra i else if k = i then ra j else ra k) ≠ p
        split
        · exact t.ne i hi
        · split
          · exact t.ne j hj
          · exact t.ne k hk
      · have J := t.inj
        have e : (if k = j then ra i else if k = i then ra j else ra k) = (if l = j then ra i else if l = i then ra j else ra l) := e
        by_cases a1 : k = j
        · by_cases a2 : l = j
          · omega
          · rw [if_pos a1, if_neg a2] at e
            by_cases a3 : l = i
            · rw [if_pos a3] at e
              have := J i hi j hj e
              omega
            · rw [if_neg a3] at e
              have := J i hi l hl e
              omega
        · rw [if_neg a1] at e
          by_cases a2 : l = j
          · rw [if_pos a2] at e
            by_cases a3 : k = i
            · rw [if_pos a3] at e
              have := J j hj i hi e
              omega
            · rw [if_neg a3] at e
              have := J k hk i hi e
              omega
          · rw [if_neg a2] at e
            by_cases a3 : k = i
            · by_cases a4 : l = i
              · omega
              · rw [if_pos a3, if_neg a4] at e
                have := J j hj l hl e
                omega
            · by_cases a4 : l = i
              · rw [if_neg a3, if_pos a4] at e
                have := J k hk j hj e
                omega
              · rw [if_neg a3, if_neg a4] at e
                exact J k hk l hl e
      · have G : ∀ r, r < h → RowE _ (ra r) n (U r) := fun r hr => (t.rows r hr).fr f2 fun z => t.ne r hr z
        show RowE _ (if k = j then ra i else if k = i then ra j else ra k) n (if k = j then U i else if k = i then U j else U k)
        by_cases e1 : k = j
        · rw [if_pos e1, if_pos e1]
          exact G i hi
        · rw [if_neg e1, if_neg e1]
          by_cases e2 : k = i
          · rw [if_pos e2, if_pos e2]
            exact G j hj
          · rw [if_neg e2, if_neg e2]
            exact G k hk
    | none =>
      refine ⟨_, rfl, rfl, _, rfl, itF (knd_ne rfl) ?_⟩
      refine ⟨_, rfl, rfl, _, rfl, itF (knd_ne rfl) ?_⟩
      refine ⟨_, rfl, rfl, _, rfl, itF (knd_ne rfl) ?_⟩
      exact kk H O ra (fun b z => .inl z) Fr.refl t
end
end RX

set_option Elab.async false
set_option maxRecDepth 100000
namespace RX
open PySem L2 LX VA VM VN
open RQ (Hg Bt)
abbrev sRats : Stmt := topS 60
theorem scRs : FnScope ["row", "number"] ["row"] (defScope sRats) := ⟨rfl, rfl, rfl, by decide +kernel, rfl, by decide +kernel, by decide +kernel⟩
abbrev sMakeM : Stmt := topS 61
theorem scMa : FnScope ["parts", "steps", "step", "row"] ["parts"] (defScope sMakeM) := ⟨rfl, rfl, rfl, by decide +kernel, rfl, by decide +kernel, by decide +kernel⟩
def ratsL (n : Nat) (u : Nat → Rat) : Dat := .lst (rng n fun j => .rat (u j))
def partsK (m : Mc) : Dat := .lst [.int (m.k : Int), prL m.n m.s, .lst (rng m.k fun x => prT m.n m.n (m.t x)), prL m.n m.e]
theorem At.partsK {C : Addr} {N : Addr → Prop} {H : Hp} {p : Addr} {m : Mc} (h : At C N H (.ref p) (partsK m)) : ∃ a b c, H p = some (.lst [.int (m.k : Int), .ref a, .ref b, .ref c]) ∧ At C N H (.ref a) (prL m.n m.s) ∧ At C N H (.ref b) (.lst (rng m.k fun x => prT m.n m.n (m.t x))) ∧ At C N H (.ref c) (prL m.n m.e) := by
  obtain ⟨xs, hp, l, e⟩ := h.lstE
  match xs, l with
  | [x, y, z, u], _ =>
    have h0 := (e 0 x _ rfl rfl).intV
    have h1 := e 1 y _ rfl rfl
    have h2 := e 2 z _ rfl rfl
    have h3 := e 3 u _ rfl rfl
    subst h0
    obtain ⟨a, rfl⟩ := h1.lstV
    obtain ⟨b, rfl⟩ := h2.lstV
    obtain ⟨c, rfl⟩ := h3.lstV
    exact ⟨a, b, c, hp, h1, h2, h3⟩
theorem make_m {C CM : Addr} {N : Addr → Prop} {H0 H : Hp} {vS vT vE : V} {m : Mc} {Q : VK} {E : XK} (s : Same H0 H) (al : Alc N H) (hS : At C N H vS (sqR m.n m.s)) (hT : At C N H vT (sqS m)) (hE : At C N H vE (sqR m.n m.e)) (k1 : 1 ≤ m.k) (k4 : m.k ≤ 4) (n1 : m.n ≤ 1000)
    (kk : ∀ (q ad : Addr) (H' : Hp), Same H0 H' → H0 q = none → H0 ad = none → MachAt C CM (And1 N ad) H' q ad m → Q (.ref q) H') :
    ∀ pp dxx, H pp = none → H dxx = none → dxx ≠ pp → spMi C CM (.ref pp :: ([.int (m.k : Int), vS, vT, vE] ++ [])) (upd (upd H dxx (.own pp)) pp (.ins CM dxx [])) (fun v H1 => v = .non ∧ Q (.ref pp) H1) E := by
  intro pp dxx np nd ndp
  have np' : ¬ N pp := al.fresh np
  have k3 : Keep (And1 N pp) H (upd (upd H dxx (.own pp)) pp (.ins CM dxx [])) := (Keep.new nd).trans (Keep.upd (.inr rfl))
  have lift : ∀ {v : V} {d : Dat}, At C N H v d → At C (And1 N pp) (upd (upd H dxx (.own pp)) pp (.ins CM dxx [])) v d := fun h => (h.and np).keep k3
  refine ⟨N, pp, dxx, _, _, _, m, rfl, upd_same, lift hS, lift hT, lift hE, k1, k4, n1, al.keep (M := And1 N pp) k3, np', fun ab' H4 keep nab hM _ => ⟨rfl, ?_⟩⟩
  have nab3 : H ab' = none := by
    cases q : H ab' with
    | none => rfl
    | some o =>
      have e : upd (upd H dxx (.own pp)) pp (.ins CM dxx []) ab' ≠ none := by
        by_cases e1 : ab' = pp
        · rw [e1, upd_same]; intro z; cases z
        · rw [upd_ne e1]
          by_cases e2 : ab' = dxx
          · rw [e2, upd_same]; intro z; cases z
          · rw [upd_ne e2, q]; intro z; cases z
      exact absurd nab e
  refine kk pp ab' H4 (fun c o hc => ?_) (s.free np) (s.free nab3) hM
  have hc3 := s _ _ hc
  have cp : c ≠ pp := ne_of_none hc3 np
  have cd : c ≠ dxx := ne_of_none hc3 nd
  exact keep c o (by rw [upd_ne cp, upd_ne cd]; exact hc3) cp
theorem bq_of_ov {M : Int} {b t c : Nat} {q : Rat} (m0 : M ≠ 0) (bM : Bt b M) (o : Ov M t q) (hb : b ≤ c) (ht : t ≤ c) : Bq c q := by
  have d := o.den m0
  refine ⟨d.2.up ht, (bM.le ?_).up hb⟩
  obtain ⟨z, hz⟩ := d.1
  rw [hz, Int.natAbs_mul]
  exact Nat.le_mul_of_pos_right _ (Int.natAbs_pos.mpr fun e => m0 (by rw [hz, e, Int.mul_zero]))
def spRs (C : Addr) : Sp := fun vs H Q _ => ∃ (N : Addr → Prop) (p : Addr) (n : Nat) (u : Nat → Rat), vs = [.ref p] ∧ At C N H (.ref p) (prL n u) ∧ Alc N H ∧ n ≤ 1000 ∧ ∀ (r : Addr) (H' : Hp), Same H H' → H r = none → At C N H' (.ref r) (ratsL n u) → Q (.ref r) H'
def spMaM (C CM : Addr) : Sp := fun vs H Q _ => ∃ (N : Addr → Prop) (p : Addr) (m : Mc), vs = [.ref p] ∧ At C N H (.ref p) (partsK m) ∧ Alc N H ∧ 1 ≤ m.k ∧ m.k ≤ 4 ∧ m.n ≤ 1000 ∧ ∀ (q ad : Addr) (H' : Hp), Same H H' → H q = none → H ad = none → MachAt C CM (And1 N ad) H' q ad m → Q (.ref q) H'
section
variable {P : Program} {w : World} {K : PySem.W.Frag} {mg : Str → Option Value} {base : Heap}
theorem ok_rs {f fI C : Addr} {fd dI : FuncData} (F : Fun K "_law_ratios" "_law_ratios" sRats f fd) (TR : TxtR K mg C) (M : Mk K C fI) (GI : FnOk P w K mg base CX0 33 fI dI ["self", "top", "bottom"] (spInitB C)) (bI : Binds K dI ["self", "top", "bottom"] []) : FnOk P w K mg base CX0 35 f fd ["row"] (spRs C) := by
  refine F.ok scRs (fun vs H Q E h => ?_) (fun cdv A outer s H vs Q E hr h => ?_)
  · obtain ⟨N, q, k, u, rfl, _⟩ := h
    rfl
  · obtain ⟨N, q, k, u, rfl, hq, al, hk, kk⟩ := h
    have hr34 : Room 34 _ := hr
    obtain ⟨ys, hy, ly, ey⟩ := At.lstR hq
    refine ⟨_, pss_one (ps_ret (pe_lc (own := [("number", 1)]) (g := gName 1) (tt := tYes) rfl scRs.nd (pi_list (pv 0)) (blkOk_by (N := ["row", "number"]) (sc := (defScope sRats)) (by decide +kernel)) (fun _ _ _ _ _ => (pg_name (i := 1) scRs.nd rfl (.inl rfl))) (fun _ _ _ _ _ => pts_nil) (fun _ _ _ _ _ => (pe_make M GI hr34 rfl TR.mgC bI .nil pass0 (pa_cons (pe_ix (show IxR _ (rIxT K) from ix_tup) (pv 1) pe_int (fun _ _ => rfl)) (pa_cons (pe_ix (show IxR _ (rIxT K) from ix_tup) (pv 1) pe_int (fun _ _ => rfl)) pa_nil)))))), ?_⟩
    refine ⟨_, rfl, q, rfl, ⟨_, SqL.of hy⟩, fun D nD => ?_⟩
    have nND := al.fresh nD
    refine lc_it (walk_list (K := K) (a := q) (xs := ys)) (fun i G => Bld C Emp N H D (rng i fun i => .rat (u i)) G) (bld0 nD) (fun i G _ b => SqL.of (b.k.same _ _ hy)) ?_ ?_
    · rintro i x G1 G2 hi bd ⟨rfl, hx⟩
      rw [ly] at hi
      obtain ⟨y, hy1, hy2⟩ := ey i hi
      rw [hy1] at hx
      obtain rfl := Option.some.inj hx
      obtain ⟨a, rfl, ha, _⟩ := (hy2.same bd.k.same).pair
      have sa : SqT K G2 a [.int (u i).num, .int ((u i).den : Int)] := ha.t
      refine ⟨rfl, _, rfl, a, _, 0, _, rfl, rfl, sa, rfl, _, rfl, a, _, 1, _, rfl, rfl, sa, rfl, fun x dx nx nd _ => ?_⟩
      refine make4 (VM.den_ne (u i)) nx nd fun H4 s4 hR => ⟨rfl, ?_⟩
      have e : ((u i).num : Rat) = u i * (((u i).den : Int) : Rat) := RQ.nd (u i)
      obtain ⟨e1, e2⟩ := RQ.low (VM.den_ne (u i)) e
      rw [e1, e2] at hR
      obtain ⟨acc, h1, h2, h3⟩ := bd.step nD (Same.keep s4) (fun _ z => z.elim) id (.rat hR ((bd.alc al).fresh nx))
      refine ⟨acc, h1, by rw [h2, rng_len]; exact small1000 (by omega), ?_⟩
      rw [rng_succ]
      exact h3
    · rintro G1 bd
      rw [ly] at bd
      exact kk D G1 bd.k.same nD (bd.done nND)
theorem ok_mam {f fL fM C CM : Addr} {fd dL dM : FuncData} (F : Fun K "_law_machine" "_law_machine" sMakeM f fd) (TM : TxtM K mg CM) (MM : Mk K CM fM) (GM : FnOk P w K mg base CX0 2 fM dM ["self", "letters", "start", "steps", "end"] (spMi C CM)) (bM : Binds K dM ["self", "letters", "start", "steps", "end"] []) (cRs : CalN P w K mg base "_law_ratios" 35 ["row"] (spRs C) fL dL) : FnOk P w K mg base CX0 36 f fd ["parts"] (spMaM C CM) := by
  refine F.ok scMa (fun vs H Q E h => ?_) (fun cdv A outer s H vs Q E hr h => ?_)
  · obtain ⟨N, q, m, rfl, _⟩ := h
    rfl
  · obtain ⟨N, q, m, rfl, hq, al, k1, k4, n1, kk⟩ := h
    have hr35 : Room 35 _ := hr
    have hr3 : Room 3 _ := hr.mono (by decide)
    obtain ⟨a, b, c, hy, ha, hb, hc⟩ := hq.partsK
    obtain ⟨ts, hts, lt, et⟩ := At.lstR hb
    refine ⟨_, pss_cons (ps_set (i := 1) scMa.nd rfl (.inl rfl) (pe_lst pa_nil))
      (pss_cons (ps_for PassesOwn.never rfl (pi_list (pe_ix ix_list (pv 0) pe_int (fun _ _ => rfl))) (pg_name (i := 2) scMa.nd rfl (.inl rfl))
        (pss_one (ps_expr (pe_bm PySem.F.plainAttrs_list PySem.F.slot_list_append PySem.F.type_list_append mt_append (pv 1) (pa_cons (pe_lc (own := [("row", 3)]) (g := gName 3) (tt := tYes) rfl scMa.nd (pi_list (pv 2)) (blkOk_by (N := ["parts", "steps", "step", "row"]) (sc := (defScope sMakeM)) (by decide +kernel)) (fun _ _ _ _ _ => (pg_name (i := 3) scMa.nd rfl (.inl rfl))) (fun _ _ _ _ _ => pts_nil) (fun _ _ _ _ _ => (pe_call cRs.G hr35 rfl cRs.m cRs.kp cRs.b .nil pass0 (pa_cons (pv 3) pa_nil)))) pa_nil)))))
      (pss_one (ps_ret (pe_make MM GM hr3 rfl TM.mgM bM .nil pass0 (pa_cons (pe_ix ix_list (pv 0) pe_int (fun _ _ => rfl)) (pa_cons (pe_call cRs.G hr35 rfl cRs.m cRs.kp cRs.b .nil pass0 (pa_cons (pe_ix ix_list (pv 0) pe_int (fun _ _ => rfl)) pa_nil)) (pa_cons (pv 1) (pa_cons (pe_call cRs.G hr35 rfl cRs.m cRs.kp cRs.b .nil pass0 (pa_cons (pe_ix ix_list (pv 0) pe_int (fun _ _ => rfl)) pa_nil)) pa_nil)))))))), ?_⟩
    refine ⟨(by show 0 ≤ sizeLine; decide), fun D nD => ?_⟩
    have nND := al.fresh nD
    have s0 : Same H (upd H D (.lst [])) := Same.upd nD
    refine ⟨_, rfl, q, _, 2, _, rfl, rfl, SqL.of (s0 _ _ hy), rfl, b, rfl, ⟨_, SqL.of (s0 _ _ hts)⟩, for_it (walk_list (K := K) (a := b) (xs := ts)) (fun i σ G => ∃ o2, σ = [some (.ref q), some (.ref D), o2, none] ∧ Bld C Emp N H D (rng i fun x => .lst (rng m.n fun i => ratsL m.n (m.t x i))) G) ⟨none, rfl, bld0 nD⟩ (fun i σ G _ h => by obtain ⟨_, _, bd⟩ := h; exact SqL.of (bd.k.same _ _ hts)) ?_ ?_⟩
    · rintro i x σ G1 G2 hi ⟨o2, rfl, bd⟩ ⟨rfl, hx⟩
      rw [lt] at hi
      obtain ⟨y, hy1, hy2⟩ := et i hi
      rw [hy1] at hx
      obtain rfl := Option.some.inj hx
      obtain ⟨st, rfl⟩ := hy2.lstV
      have hst := bd.old nD (fun _ z => z.elim) hy2
      obtain ⟨rs, hrs, lrs, ers⟩ := At.lstR hst
      have alG := bd.alc al
      obtain ⟨acc0, hacc0, _⟩ := bd.xs
      refine ⟨_, rfl, .inl ⟨rfl, _, SqL.of hacc0⟩, _, rfl, st, rfl, ⟨_, SqL.of hrs⟩, fun L nL => ?_⟩
      have nNL := alG.fresh nL
      refine lc_it (walk_list (K := K) (a := st) (xs := rs)) (fun j G => Bld C Emp (And1 N D) G2 L (rng j fun i' => ratsL m.n (m.t i i')) G) (bld0 nL) (fun j G _ b => SqL.of (b.k.same _ _ hrs)) ?_ ?_
      · rintro j y G3 G4 hj b2 ⟨rfl, hyj⟩
        rw [lrs] at hj
        obtain ⟨y', hy1', hy2'⟩ := ers j hj
        rw [hy1'] at hyj
        obtain rfl := Option.some.inj hyj
        obtain ⟨ln, rfl⟩ := hy2'.lstV
        refine ⟨rfl, _, rfl, And1 (And1 N D) L, ln, m.n, m.t i j, rfl, b2.old nL (fun _ z => z.elim) hy2', b2.alc alG, n1, fun r G5 s5 nr hr5 => ?_⟩
        obtain ⟨acc, h1, h2, h3⟩ := b2.step nL (Same.keep s5) (fun _ z => z.elim) id hr5
        refine ⟨acc, h1, by rw [h2, rng_len]; exact small1000 (by omega), ?_⟩
        rw [rng_succ]
        exact h3
      · rintro G3 b2
        rw [lrs] at b2
        obtain ⟨acc, h1, h2, h3⟩ := bd.step nD b2.k (fun _ z => z.elim) id (b2.done nNL)
        refine ⟨D, acc, _, rfl, rfl, h1, by rw [h2, rng_len]; exact small1000 (by omega), _, rfl, ?_⟩
        rw [rng_succ]
        exact h3
    · rintro σ G1 ⟨o2, rfl, bd⟩
      rw [lt] at bd
      have s1 := bd.k.same
      have hB := bd.done nND
      refine ⟨_, rfl, q, _, 0, _, rfl, rfl, SqL.of (s1 _ _ hy), rfl, _, rfl, q, _, 1, _, rfl, rfl, SqL.of (s1 _ _ hy), rfl, N, a, m.n, m.s, rfl, ha.same s1, al.keep bd.k, n1, fun rs H2 s2 nrs h2 => ?_⟩
      have s12 := s1.trans s2
      refine ⟨_, rfl, _, rfl, q, _, 3, _, rfl, rfl, SqL.of (s12 _ _ hy), rfl, N, c, m.n, m.e, rfl, hc.same s12, al.keep (Same.keep (N := Emp) s12), n1, fun re H3 s3 nre h3 => ?_⟩
      exact make_m (m := m) (s12.trans s3) (al.keep (Same.keep (N := Emp) (s12.trans s3))) ((h2.same s3).weak (Le.lstR fun _ _ => .refl _)) ((hB.same (s2.trans s3)).weak (Le.lstR fun _ _ => Le.lstR fun _ _ => Le.lstR fun _ _ => .refl _)) (h3.weak (Le.lstR fun _ _ => .refl _)) k1 k4 n1 kk
end
end RX

set_option Elab.async false
set_option maxRecDepth 100000
namespace RX
open PySem L2 LX VA VM VN
open RQ (Hg Bt)
/-! ### a list of pairs that is built; the parts of a machine that are changed in place -/
structure Bl (W : Addr → Prop) (H0 : Hp) (D : Addr) (k : Nat) (u : Nat → Rat) (G : Hp) : Prop where
  r : RowE G D k u
  f : Fr W H0 G
section
variable {W : Addr → Prop} {H0 G G3 : Hp} {D : Addr} {k : Nat} {u : Nat → Rat}
theorem bl0 (n : H0 D = none) (u : Nat → Rat) : Bl W H0 D 0 u (upd H0 D (.lst [])) := ⟨⟨[], upd_same, rfl, fun _ h => absurd h (Nat.not_lt_zero _)⟩, Same.fr (Same.upd n)⟩
theorem Bl.step {p : Addr} {q : Rat} (b : Bl W H0 D k u G) (n : H0 D = none) (w : ¬ W D) (f : Fr W G G3) (h : PrQ G3 p q) : ∃ acc, G3 D = some (.lst acc) ∧ acc.length = k ∧ Bl W H0 D (k + 1) (ext u k q) (upd G3 D (.lst (acc ++ [.ref p]))) := by
  obtain ⟨acc, h1, h2, _⟩ := b.r.ex
  have hD := f.get h1 w
  have fu : Fr (K1 D) G3 (upd G3 D (.lst (acc ++ [.ref p]))) := Fr.updL rfl hD
  refine ⟨acc, hD, h2, (b.r.fr f w).push hD h, ?_⟩
  exact Fr.dropS (W := fun b => W b ∨ b = D) (((b.f.trans f).more fun _ z => .inl z).trans (fu.more fun _ z => .inr z)) fun b z => z.imp id fun e => by rw [e]; exact n
theorem Bl.congr {v : Nat → Rat} (b : Bl W H0 D k u G) (e : ∀ j, j < k → u j = v j) : Bl W H0 D k v G := ⟨b.r.congr e, b.f⟩
end
structure PtE (H : Hp) (O : Addr → Prop) (q s t e : Addr) (k : Nat) (sa : Nat → Addr) (X : Nat → Addr → Prop) (ns ne : Nat) (nn : Nat → Nat) (Ss Se : Nat → Rat) (SS : Nat → Nat → Nat → Rat) : Prop where
  hq : H q = some (.lst [.int (k : Int), .ref s, .ref t, .ref e])
  ht : H t = some (.lst ((List.range k).map fun x => V.ref (sa x)))
  rs : RowE H s ns Ss
  re : RowE H e ne Se
  tt : ∀ x, x < k → ∃ ra, TabE H (X x) (sa x) (nn x) (nn x) ra (SS x)
  oq : O q
  os : O s
  ot : O t
  oe : O e
  ne : (q ≠ s ∧ q ≠ t ∧ q ≠ e) ∧ (s ≠ t ∧ s ≠ e) ∧ t ≠ e
  ox : ∀ x, x < k → ∀ b, X x b → O b ∧ b ≠ q ∧ b ≠ s ∧ b ≠ t ∧ b ≠ e
  oy : ∀ x, x < k → ∀ y, y < k → x ≠ y → ∀ b, X x b → ¬ X y b
  al : Alc O H
/-- the parts of the machine m, in lists that are changed in place -/
def Pe (H : Hp) (O : Addr → Prop) (q : Addr) (m : Mc) : Prop := ∃ s t e sa X, PtE H O q s t e m.k sa X m.n m.n (fun _ => m.n) m.s m.e m.t
section
variable {W O : Addr → Prop} {H H' : Hp} {q s t e : Addr} {k : Nat} {sa : Nat → Addr} {X : Nat → Addr → Prop} {ns ne : Nat} {nn : Nat → Nat} {Ss Se : Nat → Rat} {SS : Nat → Nat → Nat → Rat}
theorem PtE.fr (m : PtE H O q s t e k sa X ns ne nn Ss Se SS) (f : Fr W H H') (d : ∀ b, O b → ¬ W b) : PtE H' O q s t e k sa X ns ne nn Ss Se SS :=
  ⟨f.get m.hq (d _ m.oq), f.get m.ht (d _ m.ot), m.rs.fr f (d _ m.os), m.re.fr f (d _ m.oe), fun x hx => let ⟨ra, r⟩ := m.tt x hx; ⟨ra, r.fr f fun b z => d b (m.ox x hx b z).1⟩, m.oq, m.os, m.ot, m.oe, m.ne, m.ox, m.oy, m.al.keep f.k⟩
theorem PtE.same (m : PtE H O q s t e k sa X ns ne nn Ss Se SS) (f : Same H H') : PtE H' O q s t e k sa X ns ne nn Ss Se SS := m.fr (Same.fr (W := Emp) f) fun _ _ => id
theorem PtE.mono {Ss' Se' : Nat → Rat} {SS' : Nat → Nat → Nat → Rat} (m : PtE H O q s t e k sa X ns ne nn Ss Se SS) (a : ∀ j, j < ns → Ss j = Ss' j) (b : ∀ j, j < ne → Se j = Se' j) (c : ∀ x, x < k → ∀ i, i < nn x → ∀ j, j < nn x → SS x i j = SS' x i j) : PtE H O q s t e k sa X ns ne nn Ss' Se' SS' :=
  ⟨m.hq, m.ht, m.rs.congr a, m.re.congr b, fun x hx => let ⟨ra, r⟩ := m.tt x hx; ⟨ra, r.congr (c x hx)⟩, m.oq, m.os, m.ot, m.oe, m.ne, m.ox, m.oy, m.al⟩
theorem PtE.setS {ns' : Nat} {Ss' : Nat → Rat} (m : PtE H O q s t e k sa X ns ne nn Ss Se SS) (f : Fr W H H') (w : ∀ b, W b → O b → b = s) (r : RowE H' s ns' Ss') : PtE H' O q s t e k sa X ns' ne nn Ss' Se SS := by
  obtain ⟨⟨n1, n2, n3⟩, ⟨n4, n5⟩, n6⟩ := m.ne
  exact ⟨f.get m.hq fun z => n1 (w _ z m.oq), f.get m.ht fun z => n4 (w _ z m.ot).symm, r, m.re.fr f fun z => n5 (w _ z m.oe).symm, fun x hx => let ⟨ra, r⟩ := m.tt x hx; ⟨ra, r.fr f fun b z y => (m.ox x hx b z).2.2.1 (w _ y (m.ox x hx b z).1)⟩, m.oq, m.os, m.ot, m.oe, m.ne, m.ox, m.oy, m.al.keep f.k⟩
theorem PtE.setE {ne' : Nat} {Se' : Nat → Rat} (m : PtE H O q s t e k sa X ns ne nn Ss Se SS) (f : Fr W H H') (w : ∀ b, W b → O b → b = e) (r : RowE H' e ne' Se') : PtE H' O q s t e k sa X ns ne' nn Ss Se' SS := by
  obtain ⟨⟨n1, n2, n3⟩, ⟨n4, n5⟩, n6⟩ := m.ne
  exact ⟨f.get m.hq fun z => n3 (w _ z m.oq), f.get m.ht fun z => n6 (w _ z m.ot), m.rs.fr f fun z => n5 (w _ z m.os), r, fun x hx => let ⟨ra, r⟩ := m.tt x hx; ⟨ra, r.fr f fun b z y => (m.ox x hx b z).2.2.2.2 (w _ y (m.ox x hx b z).1)⟩, m.oq, m.os, m.ot, m.oe, m.ne, m.ox, m.oy, m.al.keep f.k⟩
/-- the table of one letter -/
theorem PtE.setX {x n' : Nat} {X' : Addr → Prop} {S' : Nat → Nat → Rat} {ra' : Nat → Addr} (m : PtE H O q s t e k sa X ns ne nn Ss Se SS) (hx : x < k) (f : Fr W H H') (w : ∀ b, W b → O b → X x b) (sub : ∀ b, X' b → X x b ∨ H b = none) (r : TabE H' X' (sa x) n' n' ra' S') :
    PtE H' (fun b => O b ∨ X' b) q s t e k sa (fun y => if y = x then X' else X y) ns ne (fun y => if y = x then n' else nn y) Ss Se (fun y => if y = x then S' else SS y) := by
  have nx := m.ox x hx
  have al : Alc O H' := m.al.keep f.k
  refine ⟨f.get m.hq fun z => (nx _ (w _ z m.oq)).2.1 rfl, f.get m.ht fun z => (nx _ (w _ z m.ot)).2.2.2.1 rfl, m.rs.fr f fun z => (nx _ (w _ z m.os)).2.2.1 rfl, m.re.fr f fun z => (nx _ (w _ z m.oe)).2.2.2.2 rfl, fun y hy => ?_, .inl m.oq, .inl m.os, .inl m.ot, .inl m.oe, m.ne, fun y hy b hb => ?_, fun y hy z hz ne b hb hb2 => ?_, fun b z => z.elim (al b) (r.al b)⟩
  · by_cases h : y = x
    · subst h
      rw [if_pos rfl, if_pos rfl, if_pos rfl]
      exact ⟨_, r⟩
    · rw [if_neg h, if_neg h, if_neg h]
      obtain ⟨ra, t⟩ := m.tt y hy
      exact ⟨ra, t.fr f fun b hb z => m.oy y hy x hx h b hb (w _ z (m.ox y hy b hb).1)⟩
  · by_cases h : y = x
    · rw [if_pos h] at hb
      rcases sub b hb with hb2 | hb2
      · exact ⟨.inr hb, (nx b hb2).2⟩
      · refine ⟨.inr hb, fun z => ?_, fun z => ?_, fun z => ?_, fun z => ?_⟩
        · exact m.al _ m.oq (by rw [← z]; exact hb2)
        · exact m.al _ m.os (by rw [← z]; exact hb2)
        · exact m.al _ m.ot (by rw [← z]; exact hb2)
        · exact m.al _ m.oe (by rw [← z]; exact hb2)
    · rw [if_neg h] at hb
      have := m.ox y hy b hb
      exact ⟨.inl this.1, this.2⟩
  · have key : ∀ y, y < k → y ≠ x → ∀ b, X' b → ¬ X y b := fun y hy h b h1 h2 => by
      rcases sub b h1 with h3 | h3
      · exact m.oy x hx y hy (Ne.symm h) b h3 h2
      · exact m.al b (m.ox y hy b h2).1 h3
    by_cases h : y = x
    · rw [if_pos h] at hb
      rw [if_neg fun w => ne (by rw [h, w])] at hb2
      exact key z hz (fun w => ne (by rw [h, w])) b hb hb2
    · rw [if_neg h] at hb
      by_cases h2 : z = x
      · rw [if_pos h2] at hb2
        exact key y hy h b hb2 hb
      · rw [if_neg h2] at hb2
        exact m.oy y hy z hz ne b hb hb2
/-- another list at the end -/
theorem PtE.newE {ne' : Nat} {e' : Addr} {Se' : Nat → Rat} (m : PtE H O q s t e k sa X ns ne nn Ss Se SS) (sm : Same H H') (n : H e' = none) (r : RowE H' e' ne' Se') :
    PtE (upd H' q (.lst [.int (k : Int), .ref s, .ref t, .ref e'])) (fun b => O b ∨ b = e') q s t e' k sa X ns ne' nn Ss Se' SS := by
  obtain ⟨⟨n1, n2, n3⟩, ⟨n4, n5⟩, n6⟩ := m.ne
  have f : Fr (K1 q) H' (upd H' q (.lst [.int (k : Int), .ref s, .ref t, .ref e'])) := Fr.updL rfl (sm _ _ m.hq)
  have m' := m.same sm
  have nn : ∀ b, O b → b ≠ e' := fun b h z => m.al b h (by rw [z]; exact n)
  refine ⟨upd_same, f.get m'.ht fun z => n2 z.symm, m'.rs.fr f fun z => n1 z.symm, r.fr f fun z => nn q m.oq z.symm, fun x hx => let ⟨ra, r⟩ := m'.tt x hx; ⟨ra, r.fr f fun b z => (m.ox x hx b z).2.1⟩, .inl m.oq, .inl m.os, .inl m.ot, .inr rfl, ⟨⟨n1, n2, nn q m.oq⟩, ⟨n4, nn s m.os⟩, nn t m.ot⟩, fun x hx b hb => ?_, m.oy, fun b z => ?_⟩
  · have := m.ox x hx b hb
    exact ⟨.inl this.1, this.2.1, this.2.2.1, this.2.2.2.1, nn b this.1⟩
  · rcases z with z | z
    · exact m'.al.keep f.k b z
    · rw [z]; exact f.k.a _ r.there
theorem PtE.cong {nn' : Nat → Nat} {SS' : Nat → Nat → Nat → Rat} (m : PtE H O q s t e k sa X ns ne nn Ss Se SS) (a : ∀ x, x < k → nn x = nn' x) (b : ∀ x, x < k → SS x = SS' x) : PtE H O q s t e k sa X ns ne nn' Ss Se SS' :=
  ⟨m.hq, m.ht, m.rs, m.re, fun x hx => let ⟨ra, r⟩ := m.tt x hx; ⟨ra, by rw [← a x hx, ← b x hx]; exact r⟩, m.oq, m.os, m.ot, m.oe, m.ne, m.ox, m.oy, m.al⟩
end
theorem Pe.fr {W O : Addr → Prop} {H H' : Hp} {q : Addr} {m : Mc} (h : Pe H O q m) (f : Fr W H H') (d : ∀ b, O b → ¬ W b) : Pe H' O q m := let ⟨s, t, e, sa, X, m⟩ := h; ⟨s, t, e, sa, X, m.fr f d⟩
theorem Pe.same {O : Addr → Prop} {H H' : Hp} {q : Addr} {m : Mc} (h : Pe H O q m) (f : Same H H') : Pe H' O q m := let ⟨s, t, e, sa, X, m⟩ := h; ⟨s, t, e, sa, X, m.same f⟩
theorem Pe.al {O : Addr → Prop} {H : Hp} {q : Addr} {m : Mc} (h : Pe H O q m) : Alc O H := let ⟨_, _, _, _, _, m⟩ := h; m.al
theorem Pe.at {C : Addr} {O : Addr → Prop} {H : Hp} {q : Addr} {m : Mc} (h : Pe H O q m) : At C Emp H (.ref q) (partsK m) := by
  obtain ⟨s, t, e, sa, X, h⟩ := h
  refine .lst h.hq id rfl (itemsC (.int _) (itemsC h.rs.at (itemsC (.lst h.ht id (by rw [rng_len, List.length_map, List.length_range]) fun i x d hx hd => ?_) (items1 h.re.at))))
  obtain ⟨hi, rfl⟩ := rng_lt hd
  rw [List.getElem?_map, List.getElem?_range hi] at hx
  obtain rfl := Option.some.inj hx
  obtain ⟨ra, r⟩ := h.tt i hi
  exact r.at
theorem Pe.len {O : Addr → Prop} {H : Hp} {q : Addr} {m : Mc} (h : Pe H O q m) : ∃ ps b c xs, H q = some (.lst [.int (m.k : Int), .ref ps, .ref b, .ref c]) ∧ H ps = some (.lst xs) ∧ xs.length = m.n := by
  obtain ⟨s, t, e, sa, X, h⟩ := h
  obtain ⟨xs, hx, l, _⟩ := h.rs.ex
  exact ⟨s, t, e, xs, h.hq, hx, l⟩
end RX

set_option Elab.async false
set_option maxRecDepth 100000
namespace RX
open PySem L2 LX VA VM VN
open RQ (Hg Bt)
abbrev sChange : Stmt := topS 55
theorem scCh : FnScope ["parts", "deed", "letter", "step", "column", "number", "row"] ["parts", "deed"] (defScope sChange) := ⟨rfl, rfl, rfl, by decide +kernel, rfl, by decide +kernel, by decide +kernel⟩
/-- one row in a new list -/
theorem tab_one {H : Hp} {s L : Addr} {n : Nat} {u : Nat → Rat} (r : RowE H s n u) (nL : H L = none) : TabE (upd H L (.lst [.ref s])) (fun b => b = L ∨ b = s) L 1 n (fun _ => s) (fun _ => u) := by
  have sm : Same H (upd H L (.lst [.ref s])) := Same.upd nL
  have sL : s ≠ L := fun z => r.there (by rw [z]; exact nL)
  refine ⟨upd_same, .inl rfl, fun _ _ => .inr rfl, fun _ _ => sL, fun i hi j hj _ => by omega, fun _ _ => r.same sm, fun b z => ?_⟩
  rcases z with z | z
  · rw [z, upd_same]; intro y; cases y
  · rw [z]; exact (r.same sm).there
/-- rows of one number each, that are built -/
structure Col (H0 : Hp) (D : Addr) (k : Nat) (ra : Nat → Addr) (u : Nat → Rat) (G : Hp) : Prop where
  hD : G D = some (.lst ((List.range k).map fun i => V.ref (ra i)))
  s : Same H0 G
  ne : ∀ i, i < k → ra i ≠ D
  fr : ∀ i, i < k → H0 (ra i) = none
  inj : ∀ i, i < k → ∀ j, j < k → ra i = ra j → i = j
  rows : ∀ i, i < k → RowE G (ra i) 1 (fun _ => u i)
theorem Col.step {H0 G : Hp} {D L : Addr} {k : Nat} {ra : Nat → Addr} {u : Nat → Rat} {p : Addr} {q : Rat} (c : Col H0 D k ra u G) (nD : H0 D = none) (nL : G L = none) (h : PrQ G p q) : Col H0 D (k + 1) (ext ra k L) (ext u k q) (upd (upd G L (.lst [.ref p])) D (.lst (((List.range k).map fun i => V.ref (ra i)) ++ [.ref L]))) := by
  have LD : D ≠ L := fun z => by rw [← z, c.hD] at nL; cases nL
  have hD1 : (upd G L (.lst [.ref p])) D = some (.lst ((List.range k).map fun i => V.ref (ra i))) := by rw [upd_ne LD]; exact c.hD
  have s1 : Same G (upd G L (.lst [.ref p])) := Same.upd nL
  have f : Fr (K1 D) (upd G L (.lst [.ref p])) (upd (upd G L (.lst [.ref p])) D (.lst (((List.range k).map fun i => V.ref (ra i)) ++ [.ref L]))) := Fr.updL rfl hD1
  have old : ∀ i, i < k → ra i ≠ L := fun i hi z => (c.rows i hi).there (by rw [z]; exact nL)
  refine ⟨?_, fun b o hb => ?_, fun i hi => ?_, fun i hi => ?_, fun i hi j hj e => ?_, fun i hi => ?_⟩
  · rw [upd_same, List.range_succ, List.map_append]
    congr 3
    · exact List.map_congr_left fun i hi => by rw [ext_lt ra L (List.mem_range.mp hi)]
    · show [V.ref L] = [V.ref (ext ra k L k)]
      rw [ext_same]
  · rw [upd_ne (ne_of_none hb nD)]
    exact s1 _ _ (c.s _ _ hb)
  · by_cases e : i = k
    · rw [e, ext_same]; exact fun z => LD z.symm
    · rw [ext_lt ra L (by omega)]; exact c.ne i (by omega)
  · by_cases e : i = k
    · rw [e, ext_same]; exact c.s.free nL
    · rw [ext_lt ra L (by omega)]; exact c.fr i (by omega)
  · by_cases e1 : i = k
    · by_cases e2 : j = k
      · omega
      · rw [e1, ext_same, ext_lt ra L (by omega)] at e
        exact absurd e.symm (old j (by omega))
    · by_cases e2 : j = k
      · rw [e2, ext_same, ext_lt ra L (by omega)] at e
        exact absurd e (old i (by omega))
      · rw [ext_lt ra L (by omega), ext_lt ra L (by omega)] at e
        exact c.inj i (by omega) j (by omega) e
  · by_cases e : i = k
    · rw [e, ext_same]
      have r : RowE (upd G L (.lst [.ref p])) L 1 (fun _ => q) := ⟨[.ref p], upd_same, rfl, fun j hj => by
        obtain rfl : j = 0 := by omega
        exact ⟨p, rfl, h.same s1⟩⟩
      rw [ext_same]
      exact r.fr f fun z => LD z.symm
    · rw [ext_lt ra L (by omega), ext_lt u q (by omega)]
      exact ((c.rows i (by omega)).same s1).fr f fun z => c.ne i (by omega) z
theorem Col.tab {H0 G : Hp} {D : Addr} {k : Nat} {ra : Nat → Addr} {u : Nat → Rat} (c : Col H0 D k ra u G) : TabE G (fun b => b = D ∨ ∃ i, i < k ∧ b = ra i) D k 1 ra (fun i _ => u i) :=
  ⟨c.hD, .inl rfl, fun i hi => .inr ⟨i, hi, rfl⟩, c.ne, c.inj, c.rows, fun b z => by
    rcases z with z | ⟨i, hi, z⟩
    · rw [z, c.hD]; intro y; cases y
    · rw [z]; exact (c.rows i hi).there⟩
theorem Col.congr {H0 G : Hp} {D : Addr} {k : Nat} {ra : Nat → Addr} {u v : Nat → Rat} (c : Col H0 D k ra u G) (e : ∀ j, j < k → u j = v j) : Col H0 D k ra v G := ⟨c.hD, c.s, c.ne, c.fr, c.inj, fun i hi => (c.rows i hi).congr fun _ _ => e i hi⟩
/-- a machine by another basis -/
def chg (kd : Knd) (i j : Nat) (f : Rat) (m : Mc) : Mc := ⟨m.k, m.n, rgt kd i j f m.s, fun x => lft kd i j f (fun r => rgt kd i j f (m.t x r)), fun r => lft kd i j f (fun r _ => m.e r) r 0⟩
/-- the sizes that a deed wants -/
structure ChH (kd : Knd) (i j : Nat) (f : Rat) (m : Mc) : Prop where
  s : ∀ x, x < m.n → HgQ (m.s x) ∧ HgQ (f * m.s x)
  t : ∀ y, y < m.k → ∀ r, r < m.n → ∀ x, x < m.n → HgQ (m.t y r x) ∧ HgQ (f * m.t y r x)
  t2 : ∀ y, y < m.k → ∀ r, r < m.n → ∀ x, x < m.n → HgQ (rgt kd i j f (m.t y r) x) ∧ HgQ (-f * rgt kd i j f (m.t y r) x)
  e : ∀ x, x < m.n → HgQ (m.e x) ∧ HgQ (-f * m.e x)
def spCh : Sp := fun vs H Q _ => ∃ (O : Addr → Prop) (q d : Addr) (m : Mc) (kd : Knd) (i j : Nat) (f : Rat), vs = [.ref q, .ref d] ∧ Pe H O q m ∧ DeedAt H d kd i j f ∧ i < m.n ∧ j < m.n ∧ m.n ≤ 1000 ∧ m.k ≤ 4 ∧ ChH kd i j f m ∧ Fac f ∧
  ∀ (H' : Hp) (O' : Addr → Prop), (∀ b, O' b → O b ∨ H b = none) → Fr O H H' → Pe H' O' q (chg kd i j f m) → Q .non H'
section
variable {P : Program} {w : World} {K : PySem.W.Frag} {mg : Str → Option Value} {base : Heap}
theorem ok_ch {f fR fL C : Addr} {fd dR dL : FuncData} (F : Fun K "_law_change" "_law_change" sChange f fd) (T : TxtL mg) (cRi : CalN P w K mg base "_law_right" 35 ["rows", "deed"] (spRi C) fR dR) (cLe : CalN P w K mg base "_law_left" 35 ["rows", "deed"] (spLe C) fL dL) : FnOk P w K mg base CX0 36 f fd ["parts", "deed"] spCh := by
  refine F.ok scCh (fun vs H Q E h => ?_) (fun cdv A outer s H vs Q E hr h => ?_)
  · obtain ⟨O, q, d, m, kd, i, j, f, rfl, _⟩ := h
    rfl
  · obtain ⟨O, q, d, mm, kd, i, j, g, rfl, ⟨ps, pt, pe, sa, X, m⟩, hd, hi, hj, hn, hk, st, fa, kk⟩ := h
    obtain ⟨k, n, us, ut, ue⟩ := mm
    dsimp only at m hi hj hn hk
    have hr35 : Room 35 _ := hr
    refine ⟨_, pss_cons (ps_expr (pe_call cRi.G hr35 rfl cRi.m cRi.kp cRi.b .nil pass0 (pa_cons (pe_lst (pa_cons (pe_ix ix_list (pv 0) pe_int (fun _ _ => rfl)) pa_nil)) (pa_cons (pv 1) pa_nil))))
      (pss_cons (ps_for PassesOwn.never rfl (pi_range1 (by rfl) T.range (pa_cons (pe_ix ix_list (pv 0) pe_int (fun _ _ => rfl)) pa_nil)) (pg_name (i := 2) scCh.nd rfl (.inl rfl))
        (pss_cons (ps_set (i := 3) scCh.nd rfl (.inl rfl) (pe_ix ix_list (pe_ix ix_list (pv 0) pe_int (fun _ _ => rfl)) (pv 2) (fun _ _ => rfl)))
        (pss_cons (ps_expr (pe_call cRi.G hr35 rfl cRi.m cRi.kp cRi.b .nil pass0 (pa_cons (pv 3) (pa_cons (pv 1) pa_nil))))
        (pss_one (ps_expr (pe_call cLe.G hr35 rfl cLe.m cLe.kp cLe.b .nil pass0 (pa_cons (pv 3) (pa_cons (pv 1) pa_nil))))))))
      (pss_cons (ps_setLc (i := 4) (own := [("number", 5)]) (g := gName 5) (tt := tYes) rfl scCh.nd rfl rfl (sw_true rfl rfl rfl (by decide +kernel)) (pi_list (pe_ix ix_list (pv 0) pe_int (fun _ _ => rfl))) (blkOk_by (N := ["parts", "deed", "letter", "step", "column", "number", "row"]) (sc := (defScope sChange)) (by decide +kernel)) (fun _ _ _ _ _ => (pg_name (i := 5) scCh.nd rfl (.inl rfl))) (fun _ _ _ _ _ => pts_nil) (fun _ _ _ _ _ => (pe_lst (pa_cons (pv 5) pa_nil))))
      (pss_cons (ps_expr (pe_call cLe.G hr35 rfl cLe.m cLe.kp cLe.b .nil pass0 (pa_cons (pv 4) (pa_cons (pv 1) pa_nil))))
      (pss_one (ps_asg (pe_lc (own := [("row", 6)]) (g := gName 6) (tt := tYes) rfl scCh.nd (pi_list (pv 4)) (blkOk_by (N := ["parts", "deed", "letter", "step", "column", "number", "row"]) (sc := (defScope sChange)) (by decide +kernel)) (fun _ _ _ _ _ => (pg_name (i := 6) scCh.nd rfl (.inl rfl))) (fun _ _ _ _ _ => pts_nil) (fun _ _ _ _ _ => (pe_ix (show IxR _ (rIxL K) from ix_list) (pv 6) pe_int (fun _ _ => rfl)))) (pg_sub (pv 0) pe_int set_list)))))), ?_⟩
    refine ⟨_, rfl, q, _, 1, _, rfl, rfl, SqL.of m.hq, rfl, (by show 1 ≤ sizeLine; decide), fun L nL => ?_⟩
    have t1 := tab_one m.rs nL
    have sL : Same H (upd H L (.lst [.ref ps])) := Same.upd nL
    generalize upd H L (.lst [.ref ps]) = H1 at *
    refine ⟨_, rfl, _, L, d, 1, n, _, _, kd, i, j, g, rfl, t1, hd.fr (Same.fr (W := Emp) sL), hi, hj, by decide, hn, fun _ _ => st.s, fa, fun H2 f2 t2 => ?_⟩
    have f02 : Fr (K1 ps) H H2 := Fr.dropS ((Same.fr sL).trans f2) fun b z => by
      rcases z with z | z
      · exact .inr (by rw [z]; exact nL)
      · exact .inl z
    have m2 := m.setS f02 (fun _ z _ => z) (t2.rows 0 (by decide))
    have KO : ∀ b, K1 ps b → O b := fun b z => by rw [z]; exact m.os
    refine ⟨_, rfl, q, _, 0, _, rfl, rfl, SqL.of m2.hq, rfl, k, rfl, by omega, by omega, for_range (n := k) (fun x σ G => ∃ o2 o3 O2 X2, σ = [some (.ref q), some (.ref d), o2, o3, none, none, none] ∧ (∀ b, O2 b → O b ∨ H b = none) ∧ Fr O H G ∧ PtE G O2 q ps pt pe k sa X2 n n (fun _ => n) (rgt kd i j g us) ue (fun y => if y < x then lft kd i j g (fun r => rgt kd i j g (ut y r)) else ut y))
      ⟨none, none, O, X, rfl, fun b z => .inl z, f02.more KO, m2.cong (fun _ _ => rfl) fun x hx => by rw [if_neg (by omega)]⟩ ?_ ?_⟩
    · rintro x σ G hx ⟨o2, o3, O2, X2, rfl, sub, f3, m3⟩
      obtain ⟨ra, tx⟩ := m3.tt x hx
      rw [if_neg (by omega)] at tx
      refine ⟨_, rfl, q, _, 2, _, rfl, rfl, SqL.of m3.hq, rfl, _, rfl, pt, _, _, _, rfl, rfl, SqL.of m3.ht, at_of (Int.zero_add _) (TabR.get hx), ?_⟩
      refine ⟨_, rfl, _, rfl, X2 x, sa x, d, n, n, ra, _, kd, i, j, g, rfl, tx, hd.fr f3, hi, hj, hn, hn, st.t x hx, fa, fun G4 f4 t4 => ?_⟩
      refine ⟨_, rfl, _, rfl, X2 x, sa x, d, n, n, ra, _, kd, i, j, g, rfl, t4, (hd.fr f3).fr f4, hi, hj, hn, hn, st.t2 x hx, fa, fun G5 X' ra' sub5 f5 t5 => ?_⟩
      have f45 := f4.trans f5
      have m5 := m3.setX hx f45 (fun _ z _ => z) (fun b z => (sub5 b z).imp id fun e => by
        cases e2 : G b with
        | none => rfl
        | some o => exact absurd e (f4.k.a b (by rw [e2]; intro y; cases y))) t5
      have XO : ∀ b, X2 x b → O b ∨ H b = none := fun b z => sub b (m3.ox x hx b z).1
      refine ⟨_, _, _, _, rfl, fun b z => ?_, ?_, m5.cong (fun y _ => by by_cases e : y = x <;> simp [e]) fun y hy => ?_⟩
      · rcases z with z | z
        · exact sub b z
        · rcases sub5 b z with h | h
          · exact XO b h
          · refine .inr ?_
            cases e2 : H b with
            | none => rfl
            | some o => exact absurd h (f4.k.a b (f3.k.a b (by rw [e2]; intro y; cases y)))
      · exact Fr.dropS (W := fun b => O b ∨ X2 x b) ((f3.more fun _ z => .inl z).trans (f45.more fun _ z => .inr z)) fun b z => z.elim .inl (XO b)
      · by_cases e : y = x
        · rw [if_pos e, if_pos (by omega), e]
        · rw [if_neg e]
          by_cases e2 : y < x
          · rw [if_pos e2, if_pos (by omega)]
          · rw [if_neg e2, if_neg (by omega)]
    · rintro σ G ⟨o2, o3, O2, X2, rfl, sub, f3, m3⟩
      obtain ⟨xs, hxs, lxs, exs⟩ := m3.re.ex
      refine ⟨_, rfl, q, _, 3, _, rfl, rfl, SqL.of m3.hq, rfl, pe, rfl, ⟨_, SqL.of hxs⟩, fun D nD => ?_⟩
      refine lc_it (walk_list (K := K) (a := pe) (xs := xs)) (fun i G1 => ∃ ra, Col G D i ra ue G1) ⟨fun _ => D, upd_same, Same.upd nD, fun i a => absurd a (by omega), fun i a => absurd a (by omega), fun i a => absurd a (by omega), fun i a => absurd a (by omega)⟩ (fun i G1 _ b => by obtain ⟨_, c⟩ := b; exact SqL.of (c.s _ _ hxs)) ?_ ?_
      · rintro r x G1 G2 hr2 ⟨ra, c⟩ ⟨rfl, hxr⟩
        obtain ⟨p5, hp5, hq5⟩ := exs r (by omega)
        rw [hp5] at hxr
        obtain rfl := Option.some.inj hxr
        refine ⟨rfl, _, rfl, (by show 1 ≤ sizeLine; decide), fun L2 nL2 => ?_⟩
        have LD : D ≠ L2 := fun z => by rw [← z, c.hD] at nL2; cases nL2
        refine ⟨_, by rw [upd_ne LD]; exact c.hD, by rw [List.length_map, List.length_range]; exact small1000 (by omega), _, (c.step nD nL2 (hq5.same c.s)).congr fun l hl => ?_⟩
        by_cases el : l = r
        · rw [el, ext_same]
        · rw [ext_lt _ _ (by omega)]
      · rintro G1 ⟨ra, c⟩
        rw [lxs] at c
        have dG := (hd.fr f3).fr (Same.fr (W := Emp) c.s)
        refine ⟨_, rfl, _, rfl, _, D, d, n, 1, ra, _, kd, i, j, g, rfl, c.tab, dG, hi, hj, hn, by decide, fun r hr _ _ => st.e r hr, fa, fun G2 O' ra' sub2 f2 t2 => ?_⟩
        have fG2 : Fr Emp G G2 := Fr.dropS ((Same.fr c.s).trans f2) fun b z => by
          rcases z with z | ⟨i, hi, z⟩
          · exact .inr (by rw [z]; exact nD)
          · exact .inr (by rw [z]; exact c.fr i hi)
        have s2 : Same G G2 := fG2.k.same
        have hD2 := t2.hp
        refine ⟨_, rfl, D, rfl, ⟨_, SqL.of hD2⟩, fun E1 nE => ?_⟩
        refine lc_it (walk_list (K := K) (a := D) (xs := (List.range n).map fun i => V.ref (ra' i))) (fun r G3 => Bl Emp G2 E1 r (fun r => lft kd i j g (fun r _ => ue r) r 0) G3) (bl0 nE _) (fun i G3 _ b => SqL.of (b.f.get hD2 id)) ?_ ?_
        · rintro r x G3 G4 hr3 b ⟨rfl, hxr⟩
          rw [List.length_map, List.length_range] at hr3
          rw [TabR.get hr3] at hxr
          obtain rfl := Option.some.inj hxr
          have rr := (t2.rows r hr3).fr b.f id
          obtain ⟨ys, p, hys, lys, hy0, hpy⟩ := rr.get (i := 0) (by decide)
          refine ⟨rfl, _, rfl, ra' r, ys, 0, _, rfl, rfl, SqL.of hys, at_of rfl hy0, ?_⟩
          obtain ⟨acc, a1, a2, a3⟩ := b.step nE id Fr.refl hpy
          refine ⟨acc, a1, by rw [a2]; exact small1000 (by omega), a3.congr fun l hl => ?_⟩
          by_cases el : l = r
          · rw [el, ext_same]
          · rw [ext_lt _ _ (by omega)]
        · rintro G3 b
          rw [List.length_map, List.length_range] at b
          have s3 : Same G2 G3 := b.f.k.same
          have s23 := s2.trans s3
          have nE0 : G E1 = none := s2.free nE
          have m4 := m3.newE s23 nE0 b.r
          refine ⟨_, rfl, q, _, 3, 3, rfl, rfl, s23 _ _ m3.hq, ixN_at rfl (show 3 < 4 by decide), ?_⟩
          have nEH : H E1 = none := f3.k.free nE0
          refine kk _ _ (fun b z => ?_) ?_ ⟨ps, pt, E1, sa, X2, m4.mono (fun _ _ => rfl) (fun _ _ => rfl) fun x hx r _ l _ => by rw [if_pos hx]; rfl⟩
          · rcases z with z | z
            · exact sub b z
            · exact .inr (by rw [z]; exact nEH)
          · exact (f3.trans (Same.fr s23)).trans (Fr.more (W := K1 q) (Fr.updL rfl (s23 _ _ m3.hq)) fun b z => by rw [z]; exact m.oq)
end
end RX

set_option Elab.async false
set_option maxRecDepth 100000
namespace RX
open PySem L2 LX VA VM VN
open RQ (Hg Bt)
/-! ### the numbers stay: by another basis, with a state more that is not seen or not reached -/
theorem dot_put {u v : Nat → Rat} {i : Nat} {q : Rat} : ∀ {n : Nat}, i < n → dot (put u i q) v n = dot u v n + (q - u i) * v i
  | 0, h => absurd h (by omega)
  | n + 1, h => by
    show dot (put u i q) v n + put u i q n * v n = dot u v n + u n * v n + (q - u i) * v i
    by_cases e : i = n
    · subst e
      have : dot (put u i q) v i = dot u v i := dot_congr (fun j hj => by unfold put; rw [if_neg (by omega)]) fun _ _ => rfl
      rw [this]
      unfold put
      rw [if_pos rfl]
      grind
    · rw [dot_put (n := n) (by omega)]
      unfold put
      rw [if_neg (fun z => e z.symm)]
      grind
theorem dot_putR {u v : Nat → Rat} {i n : Nat} {q : Rat} (h : i < n) : dot u (put v i q) n = dot u v n + u i * (q - v i) := by
  rw [dot_comm, dot_put h, dot_comm]
  grind
/-- what a deed makes of a column -/
def lfv (kd : Knd) (i j : Nat) (f : Rat) (v : Nat → Rat) : Nat → Rat := fun r => lft kd i j f (fun r _ => v r) r 0
theorem lfv_add {i j : Nat} {f : Rat} {v : Nat → Rat} : lfv .add i j f v = put v i (v i + -f * v j) := by
  funext r
  unfold lfv lft put
  dsimp only
  by_cases e : r = i
  · rw [if_pos e, if_pos e]
  · rw [if_neg e, if_neg e]
theorem lfv_scale {i j : Nat} {f : Rat} {v : Nat → Rat} : lfv .scale i j f v = put v i (v i * f⁻¹) := by
  funext r
  unfold lfv lft put
  dsimp only
  by_cases e : r = i
  · rw [if_pos e, if_pos e]
  · rw [if_neg e, if_neg e]
theorem lfv_swap {i j : Nat} {f : Rat} {v : Nat → Rat} : lfv .swap i j f v = put (put v i (v j)) j (v i) := by
  funext r
  unfold lfv lft put
  dsimp only
  by_cases e : r = j
  · rw [if_pos e, if_pos e]
  · rw [if_neg e, if_neg e]
    by_cases e2 : r = i
    · rw [if_pos e2, if_pos e2]
    · rw [if_neg e2, if_neg e2]
theorem put_at {u : Nat → Rat} {i : Nat} {q : Rat} : put u i q i = q := if_pos rfl
theorem put_ne {u : Nat → Rat} {i j : Nat} {q : Rat} (h : j ≠ i) : put u i q j = u j := if_neg h
theorem rl_dot {kd : Knd} {i j n : Nat} {f : Rat} {u v : Nat → Rat} (hi : i < n) (hj : j < n) (hf : f ≠ 0) (ne : kd = .add → i ≠ j) : dot (rgt kd i j f u) (lfv kd i j f v) n = dot u v n := by
  cases kd with
  | add =>
    have ne := ne rfl
    rw [lfv_add]
    show dot (put u j (u j + f * u i)) _ n = _
    rw [dot_put hj, dot_putR hi, put_ne (fun z => ne z.symm)]
    grind
  | scale =>
    rw [lfv_scale]
    show dot (put u i (u i * f)) _ n = _
    rw [dot_put hi, dot_putR hi, put_at]
    have : f * f⁻¹ = 1 := Rat.mul_inv_cancel _ hf
    generalize f⁻¹ = g at *
    grind
  | swap =>
    rw [lfv_swap]
    show dot (put (put u i (u j)) j (u i)) _ n = _
    rw [dot_put hj, dot_put hi, dot_putR hj, dot_putR hi, put_at]
    by_cases e : i = j
    · subst e
      rw [put_at, put_at, put_at]
      grind
    · rw [put_ne (fun z => e z.symm), put_ne (fun z => e z.symm), put_ne e, put_at]
      grind
  | none => rfl
theorem dot_addf {r u v : Nat → Rat} {f : Rat} {n : Nat} : dot r (fun l => u l + f * v l) n = dot r u n + f * dot r v n := by
  rw [dot_add, dot_mul]
theorem rgt_lin {kd : Knd} {i j n y : Nat} {f : Rat} {r : Nat → Rat} {T : Nat → Nat → Rat} : dot r (fun l => rgt kd i j f (T l) y) n = rgt kd i j f (fun y => dot r (fun l => T l y) n) y := by
  cases kd with
  | add =>
    unfold rgt put
    dsimp only
    by_cases e : y = j
    · simp only [if_pos e]
      exact dot_addf
    · simp only [if_neg e]
  | scale =>
    unfold rgt put
    dsimp only
    by_cases e : y = i
    · simp only [if_pos e]
      have : (fun l => T l i * f) = fun l => f * T l i := by funext l; exact Rat.mul_comm _ _
      rw [this, dot_mul, Rat.mul_comm]
    · simp only [if_neg e]
  | swap =>
    unfold rgt put
    dsimp only
    by_cases e : y = j
    · simp only [if_pos e]
    · simp only [if_neg e]
      by_cases e2 : y = i
      · simp only [if_pos e2]
      · simp only [if_neg e2]
  | none => rfl
theorem lft_col {kd : Knd} {i j l y : Nat} {f : Rat} {U : Nat → Nat → Rat} : lft kd i j f U l y = lfv kd i j f (fun l => U l y) l := by
  cases kd with
  | add =>
    unfold lfv lft
    dsimp only
    by_cases e : l = i
    · rw [if_pos e, if_pos e]
    · rw [if_neg e, if_neg e]
  | scale =>
    unfold lfv lft
    dsimp only
    by_cases e : l = i
    · rw [if_pos e, if_pos e]
    · rw [if_neg e, if_neg e]
  | swap =>
    unfold lfv lft
    dsimp only
    by_cases e : l = j
    · rw [if_pos e, if_pos e]
    · rw [if_neg e, if_neg e]
      by_cases e2 : l = i
      · rw [if_pos e2, if_pos e2]
      · rw [if_neg e2, if_neg e2]
  | none => rfl
/-- the number of a word -/
def nbr (m : Mc) (w : List Nat) : Rat := dot (VN.row m.n m.t m.s w) m.e m.n
theorem chg_row {kd : Knd} {i j : Nat} {f : Rat} {m : Mc} (hi : i < m.n) (hj : j < m.n) (hf : f ≠ 0) (ne : kd = .add → i ≠ j) : ∀ {w : List Nat} {r : Nat → Rat}, VN.row m.n (chg kd i j f m).t (rgt kd i j f r) w = rgt kd i j f (VN.row m.n m.t r w)
  | [], _ => rfl
  | x :: w, r => by
    show VN.row m.n (chg kd i j f m).t (fun y => dot (rgt kd i j f r) (fun l => lft kd i j f (fun r => rgt kd i j f (m.t x r)) l y) m.n) w = rgt kd i j f (VN.row m.n m.t (fun y => dot r (fun l => m.t x l y) m.n) w)
    rw [← chg_row hi hj hf ne (w := w)]
    congr 1
    funext y
    have e : (fun l => lft kd i j f (fun r => rgt kd i j f (m.t x r)) l y) = lfv kd i j f (fun l => rgt kd i j f (m.t x l) y) := by
      funext l
      exact lft_col
    rw [e, rl_dot hi hj hf ne, rgt_lin]
theorem chg_nbr {kd : Knd} {i j : Nat} {f : Rat} {m : Mc} {w : List Nat} (hi : i < m.n) (hj : j < m.n) (hf : f ≠ 0) (ne : kd = .add → i ≠ j) : nbr (chg kd i j f m) w = nbr m w := by
  show dot (VN.row m.n (chg kd i j f m).t (rgt kd i j f m.s) w) (lfv kd i j f m.e) m.n = _
  rw [chg_row hi hj hf ne, rl_dot hi hj hf ne]
  rfl
/-- a state more that is not seen -/
structure Usn (m m' : Mc) : Prop where
  k : m'.k = m.k
  n : m'.n = m.n + 1
  s : ∀ j, j < m.n → m'.s j = m.s j
  t : ∀ x, x < m.k → ∀ i, i < m.n → ∀ j, j < m.n → m'.t x i j = m.t x i j
  z : ∀ x, x < m.k → ∀ j, j < m.n → m'.t x m.n j = 0
  e : ∀ j, j < m.n → m'.e j = m.e j
  ez : m'.e m.n = 0
/-- a state more that is not reached -/
structure Unr (m m' : Mc) : Prop where
  k : m'.k = m.k
  n : m'.n = m.n + 1
  s : ∀ j, j < m.n → m'.s j = m.s j
  sz : m'.s m.n = 0
  t : ∀ x, x < m.k → ∀ i, i < m.n → ∀ j, j < m.n → m'.t x i j = m.t x i j
  z : ∀ x, x < m.k → ∀ i, i < m.n → m'.t x i m.n = 0
  e : ∀ j, j < m.n → m'.e j = m.e j
theorem usn_row {m m' : Mc} (u : Usn m m') : ∀ {w : List Nat} {r r' : Nat → Rat}, Ltk m.k w → (∀ j, j < m.n → r' j = r j) → ∀ j, j < m.n → VN.row m'.n m'.t r' w j = VN.row m.n m.t r w j
  | [], _, _, _, h => h
  | x :: w, r, r', hw, h => fun j hj => by
    refine usn_row u (w := w) (fun y hy => hw y (List.mem_cons_of_mem _ hy)) (fun j hj => ?_) j hj
    have hx := hw x List.mem_cons_self
    rw [u.n]
    show dot r' (fun i => m'.t x i j) m.n + r' m.n * m'.t x m.n j = _
    rw [u.z x hx j hj, Rat.mul_zero, Rat.add_zero]
    exact dot_congr h fun i hi => u.t x hx i hi j hj
theorem usn_nbr {m m' : Mc} (u : Usn m m') {w : List Nat} (hw : Ltk m.k w) : nbr m' w = nbr m w := by
  unfold nbr
  have e := usn_row u hw u.s
  rw [u.n] at e ⊢
  show dot _ m'.e m.n + _ * m'.e m.n = _
  rw [u.ez, Rat.mul_zero, Rat.add_zero]
  exact dot_congr e u.e
theorem unr_row {m m' : Mc} (u : Unr m m') : ∀ {w : List Nat} {r r' : Nat → Rat}, Ltk m.k w → (∀ j, j < m.n → r' j = r j) → r' m.n = 0 → (∀ j, j < m.n → VN.row m'.n m'.t r' w j = VN.row m.n m.t r w j) ∧ VN.row m'.n m'.t r' w m.n = 0
  | [], _, _, _, h, h0 => ⟨h, h0⟩
  | x :: w, r, r', hw, h, h0 => by
    have hx := hw x List.mem_cons_self
    refine unr_row u (w := w) (fun y hy => hw y (List.mem_cons_of_mem _ hy)) (fun j hj => ?_) ?_
    · rw [u.n]
      show dot r' (fun i => m'.t x i j) m.n + r' m.n * m'.t x m.n j = _
      rw [h0, Rat.zero_mul, Rat.add_zero]
      exact dot_congr h fun i hi => u.t x hx i hi j hj
    · rw [u.n]
      show dot r' (fun i => m'.t x i m.n) m.n + r' m.n * m'.t x m.n m.n = 0
      rw [h0, Rat.zero_mul, Rat.add_zero]
      exact dot_zero fun i hi => by rw [u.z x hx i hi, Rat.mul_zero]
theorem unr_nbr {m m' : Mc} (u : Unr m m') {w : List Nat} (hw : Ltk m.k w) : nbr m' w = nbr m w := by
  unfold nbr
  have e := unr_row u hw u.s u.sz
  rw [u.n] at e ⊢
  show dot _ m'.e m.n + _ * m'.e m.n = _
  rw [e.2, Rat.zero_mul, Rat.add_zero]
  exact dot_congr e.1 u.e
end RX

set_option Elab.async false
set_option maxRecDepth 100000
namespace RX
open PySem L2 LX VA VM VN
open RQ (Hg Bt)
/-! ### sizes of a machine under way: over its bottoms and a power of 6 -/
structure Bots (k : Nat) (b : Nat → Int) : Prop where
  h : ∀ j, j < k + 2 → b j ≠ 0 ∧ Bt 70 (b j)
structure Szm (m : Mc) (b : Nat → Int) (l T : Nat) : Prop where
  s : ∀ j, j < m.n → Ov (b 0 * 6 ^ (l + 1)) T (m.s j)
  e : ∀ j, j < m.n → Ov (b (m.k + 1) * 6 ^ (l + 1)) T (m.e j)
  t : ∀ x, x < m.k → ∀ i, i < m.n → ∀ j, j < m.n → Ov (b (x + 1) * 6 ^ (2 * l + 1)) T (m.t x i j)
theorem bt6 : Bt 3 (6 : Int) := by show (6 : Int).natAbs < 2 ^ 3; decide
theorem ov_up6 {D : Int} {T : Nat} {q : Rat} (h : Ov D T q) : Ov (D * 6) (T + 3) q := h.lift bt6
theorem fac_six {f : Rat} (h : Fac f) : ∃ z : Int, (z : Rat) = f * ((6 : Int) : Rat) ∧ Bt 5 z := by
  have d0 := f.den_pos
  have d3 := h.2.2
  have n3 := h.2.1
  have key : ∀ d c : Nat, f.den = d → d * c = 6 → c ≤ 6 → ∃ z : Int, (z : Rat) = f * ((6 : Int) : Rat) ∧ Bt 5 z := fun d c e1 e2 hc => by
    refine ⟨f.num * (c : Int), ?_, ?_⟩
    · rw [Rat.intCast_mul, RQ.nd f, Rat.mul_assoc]
      congr 1
      rw [← Rat.intCast_mul, e1]
      congr 1
      exact_mod_cast e2
    · show (f.num * (c : Int)).natAbs < 2 ^ 5
      rw [Int.natAbs_mul, Int.natAbs_natCast]
      have := Nat.mul_le_mul n3 hc
      omega
  have : f.den = 1 ∨ f.den = 2 ∨ f.den = 3 := by omega
  rcases this with e | e | e
  · exact key 1 6 e rfl (by decide)
  · exact key 2 3 e rfl (by decide)
  · exact key 3 2 e rfl (by decide)
theorem fac_ov {D : Int} {T : Nat} {f q : Rat} (h : Fac f) (o : Ov D T q) : Ov (D * 6) (T + 5) (f * q) := by
  obtain ⟨z, e, b⟩ := fac_six h
  have := (show Ov 6 5 f from ⟨z, e, b⟩).mul o
  rw [Int.mul_comm, Nat.add_comm]
  exact this
theorem rgt_ov {D : Int} {T n : Nat} {u : Nat → Rat} {kd : Knd} {i j : Nat} {f : Rat} (hu : ∀ x, x < n → Ov D T (u x)) (hi : i < n) (hj : j < n) (hf : Fac f) : ∀ x, x < n → Ov (D * 6) (T + 6) (rgt kd i j f u x) := fun x hx => by
  have up : ∀ y, y < n → Ov (D * 6) (T + 6) (u y) := fun y hy => (ov_up6 (hu y hy)).up (by omega)
  have ml : ∀ y, y < n → Ov (D * 6) (T + 5) (f * u y) := fun y hy => fac_ov hf (hu y hy)
  cases kd with
  | add =>
    unfold rgt put
    dsimp only
    by_cases e : x = j
    · rw [if_pos e]
      exact ((ov_up6 (hu j hj)).up (by omega)).add (ml i hi)
    · rw [if_neg e]
      exact up x hx
  | scale =>
    unfold rgt put
    dsimp only
    by_cases e : x = i
    · rw [if_pos e, Rat.mul_comm]
      exact (ml i hi).up (by omega)
    · rw [if_neg e]
      exact up x hx
  | swap =>
    unfold rgt put
    dsimp only
    by_cases e : x = j
    · rw [if_pos e]
      exact up i hi
    · rw [if_neg e]
      by_cases e2 : x = i
      · rw [if_pos e2]
        exact up j hj
      · rw [if_neg e2]
        exact up x hx
  | none => exact up x hx
theorem lft_ov {D : Int} {T h n : Nat} {U : Nat → Nat → Rat} {kd : Knd} {i j : Nat} {f : Rat} (hu : ∀ r, r < h → ∀ x, x < n → Ov D T (U r x)) (hi : i < h) (hj : j < h) (hf : Fac f) : ∀ r, r < h → ∀ x, x < n → Ov (D * 6) (T + 6) (lft kd i j f U r x) := fun r hr x hx => by
  have up : ∀ y, y < h → Ov (D * 6) (T + 6) (U y x) := fun y hy => (ov_up6 (hu y hy x hx)).up (by omega)
  cases kd with
  | add =>
    unfold lft
    dsimp only
    by_cases e : r = i
    · rw [if_pos e]
      exact ((ov_up6 (hu i hi x hx)).up (by omega)).add (fac_ov hf.neg (hu j hj x hx))
    · rw [if_neg e]
      exact up r hr
  | scale =>
    unfold lft
    dsimp only
    by_cases e : r = i
    · rw [if_pos e]
      show Ov _ _ (U i x * f⁻¹)
      rw [Rat.mul_comm]
      exact (fac_ov hf.inv (hu i hi x hx)).up (by omega)
    · rw [if_neg e]
      exact up r hr
  | swap =>
    unfold lft
    dsimp only
    by_cases e : r = j
    · rw [if_pos e]
      exact up i hi
    · rw [if_neg e]
      by_cases e2 : r = i
      · rw [if_pos e2]
        exact up j hj
      · rw [if_neg e2]
        exact up r hr
  | none => exact up r hr
theorem chg_sz {m : Mc} {b : Nat → Int} {l T : Nat} {kd : Knd} {i j : Nat} {f : Rat} (z : Szm m b l T) (hi : i < m.n) (hj : j < m.n) (hf : Fac f) : Szm (chg kd i j f m) b (l + 1) (T + 12) := by
  refine ⟨fun x hx => ?_, fun x hx => ?_, fun y hy r hr x hx => ?_⟩
  · have := rgt_ov (kd := kd) z.s hi hj hf x hx
    rw [Int.mul_assoc, ← Int.pow_succ] at this
    exact this.up (by omega)
  · have := lft_ov (kd := kd) (n := 1) (U := fun r _ => m.e r) (fun r hr _ _ => z.e r hr) hi hj hf x hx 0 (by decide)
    rw [Int.mul_assoc, ← Int.pow_succ] at this
    exact this.up (by omega)
  · have := lft_ov (kd := kd) (n := m.n) (U := fun r => rgt kd i j f (m.t y r)) (fun r hr => rgt_ov (kd := kd) (z.t y hy r hr) hi hj hf) hi hj hf r hr x hx
    have e : b (y + 1) * 6 ^ (2 * l + 1) * 6 * 6 = b (y + 1) * 6 ^ (2 * (l + 1) + 1) := by
      rw [show 2 * (l + 1) + 1 = (2 * l + 1 + 1) + 1 by omega, Int.mul_assoc (b (y + 1) * _), Int.mul_assoc]
      congr 1
      generalize 2 * l + 1 = c
      rw [Int.pow_succ 6 (c + 1), Int.pow_succ 6 c, Int.mul_assoc]
    rw [e] at this
    exact this.up (by omega)
theorem ov_hg {D : Int} {T bD : Nat} {q : Rat} (h : Ov D T q) (d0 : D ≠ 0) (bd : Bt bD D) (l1 : T ≤ 60000000) (l2 : bD ≤ 60000000) : HgQ q := by
  obtain ⟨a, b⟩ := h.den d0
  exact ⟨⟨T, l1, b⟩, ⟨bD, l2, dvd_bt a d0 bd⟩⟩
theorem six_bt : ∀ k : Nat, Bt (3 * k + 1) ((6 : Int) ^ k)
  | 0 => by show (1 : Int).natAbs < 2 ^ 1; decide
  | k + 1 => by
    rw [Int.pow_succ]
    exact ((six_bt k).mul bt6).up (by omega)
theorem six_ne (k : Nat) : (6 : Int) ^ k ≠ 0 := Int.pow_ne_zero (by decide)
theorem bot_six {b : Int} {k c : Nat} (h : b ≠ 0 ∧ Bt 70 b) (hc : 71 + 3 * k ≤ c) : b * 6 ^ k ≠ 0 ∧ Bt c (b * 6 ^ k) := ⟨Int.mul_ne_zero h.1 (six_ne k), (h.2.mul (six_bt k)).up (by omega)⟩
theorem chh_of {m : Mc} {b : Nat → Int} {l T : Nat} {kd : Knd} {i j : Nat} {f : Rat} (z : Szm m b l T) (hb : Bots m.k b) (hi : i < m.n) (hj : j < m.n) (hf : Fac f) (l1 : l ≤ 20) (t1 : T ≤ 1000) : ChH kd i j f m := by
  have B : ∀ {D : Int} {q : Rat} {t : Nat}, Ov D t q → (D ≠ 0 ∧ Bt 1000 D) → t ≤ 2000 → HgQ q := fun o d l => ov_hg o d.1 d.2 (by omega) (by decide)
  have D : ∀ {j : Nat} {e : Nat}, j < m.k + 2 → e ≤ 60 → b j * 6 ^ e ≠ 0 ∧ Bt 1000 (b j * 6 ^ e) := fun hj he => bot_six (hb.h _ hj) (by omega)
  refine ⟨fun x hx => ⟨B (z.s x hx) (D (by omega) (by omega)) (by omega), B (fac_ov hf (z.s x hx)) ?_ (by omega)⟩, fun y hy r hr x hx => ⟨B (z.t y hy r hr x hx) (D (by omega) (by omega)) (by omega), B (fac_ov hf (z.t y hy r hr x hx)) ?_ (by omega)⟩, fun y hy r hr x hx => ?_, fun x hx => ⟨B (z.e x hx) (D (by omega) (by omega)) (by omega), B (fac_ov hf.neg (z.e x hx)) ?_ (by omega)⟩⟩
  · rw [Int.mul_assoc, ← Int.pow_succ]; exact D (by omega) (by omega)
  · rw [Int.mul_assoc, ← Int.pow_succ]; exact D (by omega) (by omega)
  · have o := rgt_ov (kd := kd) (z.t y hy r hr) hi hj hf x hx
    rw [Int.mul_assoc, ← Int.pow_succ] at o
    refine ⟨B o (D (by omega) (by omega)) (by omega), B (fac_ov hf.neg o) ?_ (by omega)⟩
    rw [Int.mul_assoc, ← Int.pow_succ]
    exact D (by omega) (by omega)
  · rw [Int.mul_assoc, ← Int.pow_succ]; exact D (by omega) (by omega)
end RX

set_option Elab.async false
set_option maxRecDepth 100000
namespace RX
open PySem L2 LX VA VM VN
open RQ (Hg Bt)
abbrev sPairL : Stmt := topS 56
theorem scPr : FnScope ["tape"] ["tape"] (defScope sPairL) := ⟨rfl, rfl, rfl, by decide +kernel, rfl, by decide +kernel, by decide +kernel⟩
abbrev sDeed : Stmt := topS 52
theorem scDe : FnScope ["tape", "size", "one", "factor", "kind", "two"] ["tape", "size"] (defScope sDeed) := ⟨rfl, rfl, rfl, by decide +kernel, rfl, by decide +kernel, by decide +kernel⟩
def Sml (q : Rat) : Prop := q.num.natAbs ≤ 5 ∧ q.den ≤ 3
theorem sml0 : Sml 0 := ⟨by decide, by decide⟩
theorem Sml.hg {f : Rat} (h : Sml f) : HgQ f := ⟨⟨3, by decide, show f.num.natAbs < 2 ^ 3 by have := h.1; omega⟩, ⟨3, by decide, show ((f.den : Int)).natAbs < 2 ^ 3 by have := h.2; omega⟩⟩
theorem Sml.neg {f : Rat} (h : Sml f) : Sml (-f) := ⟨by rw [Rat.neg_num]; have := h.1; omega, by rw [Rat.neg_den]; exact h.2⟩
theorem div_eq {n d : Int} (h : d ≠ 0) : ((n : Int) : Rat) = ((n : Rat) / (d : Rat)) * ((d : Int) : Rat) := by
  rw [Rat.div_mul_cancel]
  intro z
  exact h (by exact_mod_cast z)
theorem low_of {n d : Int} (h : d ≠ 0) : ∃ q : Rat, RT.top n d = q.num ∧ RT.bot n d = (q.den : Int) ∧ q.num.natAbs ≤ n.natAbs ∧ q.den ≤ d.natAbs ∧ (n ≠ 0 → q ≠ 0) ∧ (n : Rat) = q * (d : Rat) := by
  have e := div_eq (n := n) h
  obtain ⟨e1, e2⟩ := RQ.low h e
  refine ⟨_, e1, e2, ?_, ?_, fun hn z => ?_, e⟩
  · rw [← e1]; exact RT.top_le h
  · have := RT.bot_le (t := n) h
    rw [e2] at this
    omega
  · rw [z, Rat.zero_mul] at e
    exact hn (by exact_mod_cast e)
def spPr : Sp := fun vs H Q _ => ∃ (a cl : Addr), vs = [.ref a] ∧ FeedAt H a cl ∧ ∀ (r : Addr) (q : Rat) (H' : Hp), FeedAt H' a cl → But a H H' → H r = none → PrQ H' r q → Sml q → Q (.ref r) H'
def spDe : Sp := fun vs H Q _ => ∃ (a cl : Addr) (n : Nat), vs = [.ref a, .int (n : Int)] ∧ FeedAt H a cl ∧ 0 < n ∧ n ≤ 1000 ∧ ∀ (r : Addr) (kd : Knd) (i j : Nat) (f : Rat) (H' : Hp), FeedAt H' a cl → But a H H' → DeedAt H' r kd i j f → i < n → j < n → (kd = .add → i ≠ j) → Fac f → Q (.ref r) H'
theorem at4 {y : Int} (h0 : 0 ≤ y) (h1 : y < 4) : ∃ v : Int, atI [V.int 1, V.int (-1), V.int 2, V.int 3] y = some (.int v) ∧ v ≠ 0 ∧ v.natAbs ≤ 3 := by
  have : y = 0 ∨ y = 1 ∨ y = 2 ∨ y = 3 := by omega
  rcases this with rfl | rfl | rfl | rfl <;> exact ⟨_, rfl, by decide, by decide⟩
theorem at5 {y : Int} (h0 : 0 ≤ y) (h1 : y < 5) : ∃ v : Int, atI [V.int 1, V.int 1, V.int 1, V.int 2, V.int 3] y = some (.int v) ∧ v ≠ 0 ∧ v.natAbs ≤ 3 := by
  have : y = 0 ∨ y = 1 ∨ y = 2 ∨ y = 3 ∨ y = 4 := by omega
  rcases this with rfl | rfl | rfl | rfl | rfl <;> exact ⟨_, rfl, by decide, by decide⟩
theorem atk {y : Int} (h0 : 0 ≤ y) (h1 : y < 5) : ∃ kd : Knd, atI [V.str "add", V.str "add", V.str "add", V.str "scale", V.str "swap"] y = some (.str kd.s) := by
  have : y = 0 ∨ y = 1 ∨ y = 2 ∨ y = 3 ∨ y = 4 := by omega
  rcases this with rfl | rfl | rfl | rfl | rfl
  · exact ⟨.add, rfl⟩
  · exact ⟨.add, rfl⟩
  · exact ⟨.add, rfl⟩
  · exact ⟨.scale, rfl⟩
  · exact ⟨.swap, rfl⟩
section
variable {P : Program} {w : World} {K : PySem.W.Frag} {mg : Str → Option Value} {base : Heap}
theorem ok_pr {f fL fE fN : Addr} {fd dL dE dN : FuncData} (F : Fun K "_law_pair" "_law_pair" sPairL f fd) (cLo : CalN P w K mg base "_law_lowest" 33 ["top", "bottom"] spPairB fL dL) (cEn : CalN P w K mg base "_law_entry" 2 ["tape"] spEn fE dE) (cNx : CalN P w K mg base "_law_next" 1 ["tape", "limit"] spDraw fN dN) : FnOk P w K mg base CX0 34 f fd ["tape"] spPr := by
  refine F.ok scPr (fun vs H Q E h => ?_) (fun cdv A outer s H vs Q E hr h => ?_)
  · obtain ⟨a, cl, rfl, _⟩ := h
    rfl
  · obtain ⟨a, cl, rfl, hF, kk⟩ := h
    have hr33 : Room 33 _ := hr
    have hr1 : Room 1 _ := hr.mono (by decide)
    have hr2 : Room 2 _ := hr.mono (by decide)
    refine ⟨_, pss_one (ps_ret (pe_call cLo.G hr33 rfl cLo.m cLo.kp cLo.b .nil pass0 (pa_cons (pe_call cEn.G hr2 rfl cEn.m cEn.kp cEn.b .nil pass0 (pa_cons (pv 0) pa_nil)) (pa_cons (pe_op op_add pe_int (pe_call cNx.G hr1 rfl cNx.m cNx.kp cNx.b .nil pass0 (pa_cons (pv 0) (pa_cons pe_int pa_nil)))) pa_nil)))), ?_⟩
    refine ⟨_, rfl, a, cl, rfl, hF, fun x H1 x0 x1 f1 b1 => ?_⟩
    refine ⟨_, rfl, a, cl, 3, rfl, f1, by decide, by decide, fun y H2 y0 y1 f2 b2 => ⟨_, _, rfl, rfl, ?_⟩⟩
    have d0 : 1 + y ≠ 0 := by omega
    refine ⟨_, _, rfl, d0, fun r H3 s3 nr hR => ?_⟩
    obtain ⟨q, e1, e2, l1, l2, _, _⟩ := low_of (n := x) d0
    rw [e1, e2] at hR
    exact kk r q H3 (f2.same s3) ((b1.trans b2).trans (Same.but s3)) ((b1.trans b2).free nr f2) hR ⟨by omega, by omega⟩
theorem ok_de {f fL fN : Addr} {fd dL dN : FuncData} (F : Fun K "_law_deed" "_law_deed" sDeed f fd) (T : TxtL mg) (cLo : CalN P w K mg base "_law_lowest" 33 ["top", "bottom"] spPairB fL dL) (cNx : CalN P w K mg base "_law_next" 1 ["tape", "limit"] spDraw fN dN) : FnOk P w K mg base CX0 34 f fd ["tape", "size"] spDe := by
  refine F.ok scDe (fun vs H Q E h => ?_) (fun cdv A outer s H vs Q E hr h => ?_)
  · obtain ⟨a, cl, n, rfl, _⟩ := h
    rfl
  · obtain ⟨a, cl, n, rfl, hF, n0, n1, kk⟩ := h
    have hr33 : Room 33 _ := hr
    have hr1 : Room 1 _ := hr.mono (by decide)
    refine ⟨_, pss_cons (ps_set (i := 2) scDe.nd rfl (.inl rfl) (pe_call cNx.G hr1 rfl cNx.m cNx.kp cNx.b .nil pass0 (pa_cons (pv 0) (pa_cons (pv 1) pa_nil))))
      (pss_cons (ps_set (i := 3) scDe.nd rfl (.inl rfl) (pe_tup (pa_cons (pe_ix ix_list (pe_lst (pa_cons pe_int (pa_cons (pe_un un_neg pe_int) (pa_cons pe_int (pa_cons pe_int pa_nil))))) (pe_call cNx.G hr1 rfl cNx.m cNx.kp cNx.b .nil pass0 (pa_cons (pv 0) (pa_cons pe_int pa_nil))) (fun _ _ => rfl)) (pa_cons (pe_ix ix_list (pe_lst (pa_cons pe_int (pa_cons pe_int (pa_cons pe_int (pa_cons pe_int (pa_cons pe_int pa_nil)))))) (pe_call cNx.G hr1 rfl cNx.m cNx.kp cNx.b .nil pass0 (pa_cons (pv 0) (pa_cons pe_int pa_nil))) (fun _ _ => rfl)) pa_nil))))
      (pss_cons (ps_set (i := 4) scDe.nd rfl (.inl rfl) (pe_ix ix_list (pe_lst (pa_cons pe_str (pa_cons pe_str (pa_cons pe_str (pa_cons pe_str (pa_cons pe_str pa_nil)))))) (pe_call cNx.G hr1 rfl cNx.m cNx.kp cNx.b .nil pass0 (pa_cons (pv 0) (pa_cons pe_int pa_nil))) (fun _ _ => rfl)))
      (pss_cons (ps_set (i := 5) scDe.nd rfl (.inl rfl) (pe_op op_mod (pe_callTy call_int1 (by rfl) T.int (by decide +kernel) (pa_cons (pe_op op_add (pe_op op_add (pv 2) pe_int) (pe_call cNx.G hr1 rfl cNx.m cNx.kp cNx.b .nil pass0 (pa_cons (pv 0) (pa_cons (pv 1) pa_nil)))) pa_nil)) (pv 1)))
      (C8.pss_cut (ps_if (PW.pt (pw_and (pt_cmpR op_eq (pv 5) (pv 2) (nomark _)) (pw_and1 (pt_cmpR op_ne (pv 4) pe_str (nomark _)))))
        (pss_one (ps_set (i := 4) scDe.nd rfl (.inl rfl) pe_str))
        pss_nil)
      (pss_one (ps_ret (pe_tup (pa_cons (pv 4) (pa_cons (pv 2) (pa_cons (pv 5) (pa_cons (pe_call cLo.G hr33 rfl cLo.m cLo.kp cLo.b .nil pass0 (pa_cons (pe_ix ix_tup (pv 3) pe_int (fun _ _ => rfl)) (pa_cons (pe_ix ix_tup (pv 3) pe_int (fun _ _ => rfl)) pa_nil))) pa_nil))))))))))), ?_⟩
    refine ⟨_, rfl, _, rfl, a, cl, n, rfl, hF, by omega, by omega, fun i H1 i0 i1 f1 b1 => ?_⟩
    refine ⟨_, rfl, (by show 4 ≤ sizeLine; decide), fun l1 nl1 => ?_⟩
    have s2 : Same H1 (upd H1 l1 (.lst [.int 1, .int (-1), .int 2, .int 3])) := Same.upd nl1
    have hl1 : (upd H1 l1 (.lst [.int 1, .int (-1), .int 2, .int 3])) l1 = some (.lst [.int 1, .int (-1), .int 2, .int 3]) := upd_same
    generalize upd H1 l1 (.lst [.int 1, .int (-1), .int 2, .int 3]) = H2 at *
    refine ⟨_, rfl, a, cl, 4, rfl, f1.same s2, by decide, by decide, fun y H3 y0 y1 f3 b3 => ?_⟩
    have n1a : l1 ≠ a := (f1.ne_new nl1).1
    obtain ⟨v1, a1, z1', c1⟩ := at4 y0 y1
    refine ⟨l1, _, _, _, rfl, rfl, SqL.of (b3 _ _ hl1 n1a), a1, ?_⟩
    refine ⟨(by show 5 ≤ sizeLine; decide), fun l2 nl2 => ?_⟩
    have s4 : Same H3 (upd H3 l2 (.lst [.int 1, .int 1, .int 1, .int 2, .int 3])) := Same.upd nl2
    have hl2 : (upd H3 l2 (.lst [.int 1, .int 1, .int 1, .int 2, .int 3])) l2 = some (.lst [.int 1, .int 1, .int 1, .int 2, .int 3]) := upd_same
    generalize upd H3 l2 (.lst [.int 1, .int 1, .int 1, .int 2, .int 3]) = H4 at *
    have n2a : l2 ≠ a := (f3.ne_new nl2).1
    refine ⟨_, rfl, a, cl, 5, rfl, f3.same s4, by decide, by decide, fun y H5 y0 y1 f5 b5 => ?_⟩
    obtain ⟨v2, a2, z2, c2⟩ := at5 y0 y1
    refine ⟨l2, _, _, _, rfl, rfl, SqL.of (b5 _ _ hl2 n2a), a2, (by show 2 ≤ sizeLine; decide), fun ft nft => ?_⟩
    have s6 : Same H5 (upd H5 ft (.tup [.int v1, .int v2])) := Same.upd nft
    have hft : (upd H5 ft (.tup [.int v1, .int v2])) ft = some (.tup [.int v1, .int v2]) := upd_same
    generalize upd H5 ft (.tup [.int v1, .int v2]) = H6 at *
    have nfa : ft ≠ a := (f5.ne_new nft).1
    have f6 := f5.same s6
    have b6 : But a H H6 := b1.trans ((Same.but s2).trans (b3.trans ((Same.but s4).trans (b5.trans (Same.but s6)))))
    refine ⟨(by show 5 ≤ sizeLine; decide), fun l3 nl3 => ?_⟩
    have s7 : Same H6 (upd H6 l3 (.lst [.str "add", .str "add", .str "add", .str "scale", .str "swap"])) := Same.upd nl3
    have hl3 : (upd H6 l3 (.lst [.str "add", .str "add", .str "add", .str "scale", .str "swap"])) l3 = some (.lst [.str "add", .str "add", .str "add", .str "scale", .str "swap"]) := upd_same
    generalize upd H6 l3 (.lst [.str "add", .str "add", .str "add", .str "scale", .str "swap"]) = H7 at *
    have n3a : l3 ≠ a := (f6.ne_new nl3).1
    refine ⟨_, rfl, a, cl, 5, rfl, f6.same s7, by decide, by decide, fun y H8 y0 y1 f8 b8 => ?_⟩
    obtain ⟨kd, ak⟩ := atk y0 y1
    refine ⟨l3, _, _, _, rfl, rfl, SqL.of (b8 _ _ hl3 n3a), ak, ?_⟩
    have b8' := b6.trans ((Same.but s7).trans b8)
    have hft8 := b8 _ _ (s7 _ _ hft) nfa
    refine ⟨_, rfl, _, _, rfl, rfl, _, rfl, _, rfl, a, cl, n, rfl, f8, by omega, by omega, fun z H9 z0 z1 f9 b9 => ⟨_, _, rfl, rfl, .inl ⟨_, rfl, _, rfl, _, _, rfl, rfl, by omega, ?_⟩⟩⟩
    have b9' := b8'.trans b9
    have hft9 := b9 _ _ hft8 nfa
    have m0 : 0 ≤ (i + 1 + z) % (n : Int) := Int.emod_nonneg _ (by omega)
    have m1 : (i + 1 + z) % (n : Int) < n := Int.emod_lt_of_pos _ (by omega)
    obtain ⟨i, rfl⟩ : ∃ i' : Nat, i = (i' : Int) := ⟨i.toNat, by omega⟩
    obtain ⟨j, ej⟩ : ∃ j' : Nat, ((i : Int) + 1 + z) % (n : Int) = (j' : Int) := ⟨(((i : Int) + 1 + z) % (n : Int)).toNat, by omega⟩
    have eσ : ∀ kd : Knd, [some (V.ref a), some (.int (n : Int)), some (.int (i : Int)), some (.ref ft), some (.str kd.s), some (.int (((i : Int) + 1 + z) % (n : Int)))] = [some (V.ref a), some (.int (n : Int)), some (.int (i : Int)), some (.ref ft), some (.str kd.s), some (.int (j : Int))] := fun kd => by rw [ej]
    refine ⟨fun σ' H' => ∃ kd : Knd, σ' = [some (.ref a), some (.int (n : Int)), some (.int (i : Int)), some (.ref ft), some (.str kd.s), some (.int (j : Int))] ∧ H' = H9 ∧ (kd = .add → i ≠ j), ?_, ?_⟩
    · refine ⟨_, rfl, _, rfl, rfl, _, rfl, ?_⟩
      refine ite2 (fun _ => ?_) (fun zz => ⟨kd, eσ kd, rfl, fun _ e => zz (decide_eq_true ((congrArg V.int ej).trans (by rw [e])))⟩)
      refine ⟨_, rfl, rfl, _, rfl, ?_⟩
      exact ite2 (fun _ => ⟨.none, eσ .none, rfl, fun e => by cases e⟩) fun z => ⟨kd, eσ kd, rfl, fun e => absurd (by rw [e]; decide +kernel) z⟩
    · rintro σ' H' ⟨kd, rfl, rfl, nij⟩
      refine ⟨_, rfl, _, rfl, _, rfl, _, rfl, ft, _, 0, _, rfl, rfl, SqT.of hft9, rfl, _, rfl, ft, _, 1, _, rfl, rfl, SqT.of hft9, rfl, v1, v2, rfl, z2, fun r H10 s10 nr hR => ?_⟩
      obtain ⟨q, e1, e2, l1', l2', ne, _⟩ := low_of (n := v1) z2
      rw [e1, e2] at hR
      refine ⟨(by show 4 ≤ sizeLine; decide), fun dd ndd => ?_⟩
      have s11 : Same H10 (upd H10 dd (.tup [.str kd.s, .int (i : Int), .int (j : Int), .ref r])) := Same.upd ndd
      exact kk dd kd i j q _ ((f9.same s10).same s11) (b9'.trans (Same.but (s10.trans s11))) ⟨r, upd_same, s11 _ _ hR⟩ (by omega) (by omega) nij ⟨ne z1', by omega, by omega⟩
end
end RX

set_option Elab.async false
set_option maxRecDepth 100000
namespace RX
open PySem L2 LX VA VM VN
open RQ (Hg Bt)
abbrev sUnseen : Stmt := topS 57
theorem scUs : FnScope ["parts", "tape", "size", "letter", "step", "at", "row", "place"] ["parts", "tape"] (defScope sUnseen) := ⟨rfl, rfl, rfl, by decide +kernel, rfl, by decide +kernel, by decide +kernel⟩
abbrev sUnreached : Stmt := topS 58
theorem scUr : FnScope ["parts", "tape", "size", "letter", "step", "at", "row", "place"] ["parts", "tape"] (defScope sUnreached) := ⟨rfl, rfl, rfl, by decide +kernel, rfl, by decide +kernel, by decide +kernel⟩
structure MidN (H : Hp) (p : Addr) (h n n' : Nat) (ra : Nat → Addr) (U U' : Nat → Nat → Rat) (k : Nat) : Prop where
  hp : H p = some (.lst ((List.range h).map fun i => V.ref (ra i)))
  a : ∀ i, i < k → i < h → RowE H (ra i) n' (U' i)
  b : ∀ i, k ≤ i → i < h → RowE H (ra i) n (U i)
theorem MidN.fr {W : Addr → Prop} {H H' : Hp} {p : Addr} {h n n' k : Nat} {ra : Nat → Addr} {U U' : Nat → Nat → Rat} (m : MidN H p h n n' ra U U' k) (f : Fr W H H') (w : ¬ W p) (v : ∀ i, i < h → ¬ W (ra i)) : MidN H' p h n n' ra U U' k := ⟨f.get m.hp w, fun i a b => (m.a i a b).fr f (v i b), fun i a b => (m.b i a b).fr f (v i b)⟩
theorem MidN.step {H0 H H' : Hp} {O : Addr → Prop} {p : Addr} {h m0 n n' k : Nat} {ra : Nat → Addr} {U0 U U' : Nat → Nat → Rat} (m : MidN H p h n n' ra U U' k) (t : TabE H0 O p h m0 ra U0) (hk : k < h) (f : Fr (K1 (ra k)) H H') (r : RowE H' (ra k) n' (U' k)) : MidN H' p h n n' ra U U' (k + 1) := by
  refine ⟨f.get m.hp fun z => t.ne k hk z.symm, fun i h1 h2 => ?_, fun i h1 h2 => ?_⟩
  · by_cases e : i = k
    · rw [e]; exact r
    · exact (m.a i (by omega) h2).fr f fun z => e (t.inj i h2 k hk z)
  · exact (m.b i (by omega) h2).fr f fun z => absurd (t.inj i h2 k hk z) (by omega)
theorem MidN.congr {H : Hp} {p : Addr} {h n n' k : Nat} {ra : Nat → Addr} {U U' U2 : Nat → Nat → Rat} (m : MidN H p h n n' ra U U' k) (e : ∀ i, i < k → U' i = U2 i) : MidN H p h n n' ra U U2 k := ⟨m.hp, fun i a b => by rw [← e i a]; exact m.a i a b, m.b⟩
/-- one more row -/
theorem TabE.push {H0 H : Hp} {O : Addr → Prop} {p D : Addr} {h m0 n : Nat} {ra : Nat → Addr} {U0 U : Nat → Nat → Rat} {v : Nat → Rat} (t : TabE H0 O p h m0 ra U0) (hp : H p = some (.lst ((List.range h).map fun i => V.ref (ra i)))) (rows : ∀ i, i < h → RowE H (ra i) n (U i)) (al : Alc O H) (nO : ¬ O D) (r : RowE H D n v) :
    TabE (upd H p (.lst (((List.range h).map fun i => V.ref (ra i)) ++ [.ref D]))) (And1 O D) p (h + 1) n (ext ra h D) (ext U h v) := by
  have f : Fr (K1 p) H (upd H p (.lst (((List.range h).map fun i => V.ref (ra i)) ++ [.ref D]))) := Fr.updL rfl hp
  have Dp : D ≠ p := fun z => nO (by rw [z]; exact t.op)
  refine ⟨?_, .inl t.op, fun i hi => ?_, fun i hi => ?_, fun i hi j hj e => ?_, fun i hi => ?_, (al.and r.there).keep f.k⟩
  · rw [upd_same, List.range_succ, List.map_append]
    congr 3
    · exact List.map_congr_left fun i hi => by rw [ext_lt ra D (List.mem_range.mp hi)]
    · show [V.ref D] = [V.ref (ext ra h D h)]
      rw [ext_same]
  · by_cases e : i = h
    · rw [e, ext_same]; exact .inr rfl
    · rw [ext_lt ra D (by omega)]; exact .inl (t.orr i (by omega))
  · by_cases e : i = h
    · rw [e, ext_same]; exact Dp
    · rw [ext_lt ra D (by omega)]; exact t.ne i (by omega)
  · by_cases e1 : i = h
    · by_cases e2 : j = h
      · omega
      · rw [e1, ext_same, ext_lt ra D (by omega)] at e
        exact absurd (by rw [e]; exact t.orr j (by omega)) nO
    · by_cases e2 : j = h
      · rw [e2, ext_same, ext_lt ra D (by omega)] at e
        exact absurd (by rw [← e]; exact t.orr i (by omega)) nO
      · rw [ext_lt ra D (by omega), ext_lt ra D (by omega)] at e
        exact t.inj i (by omega) j (by omega) e
  · by_cases e : i = h
    · rw [e, ext_same, ext_same]; exact r.fr f fun z => Dp z
    · rw [ext_lt ra D (by omega), ext_lt U v (by omega)]
      exact (rows i (by omega)).fr f fun z => t.ne i (by omega) z
/-- what O and the tape may change -/
def Ta (O : Addr → Prop) (a : Addr) : Addr → Prop := fun b => O b ∨ b = a
/-- what is new is small -/
structure Nw (m m' : Mc) : Prop where
  s : Sml (m'.s m.n)
  e : Sml (m'.e m.n)
  r : ∀ x, x < m.k → ∀ i, i ≤ m.n → Sml (m'.t x i m.n)
  l : ∀ x, x < m.k → ∀ i, i ≤ m.n → Sml (m'.t x m.n i)
def spUs : Sp := fun vs H Q _ => ∃ (O : Addr → Prop) (q a cl : Addr) (m : Mc), vs = [.ref q, .ref a] ∧ Pe H O q m ∧ FeedAt H a cl ∧ (∀ b, O b → b ≠ a ∧ b ≠ cl) ∧ m.n ≤ 900 ∧ m.k ≤ 4 ∧
  ∀ (H' : Hp) (O' : Addr → Prop) (m' : Mc), (∀ b, O' b → O b ∨ H b = none) → Fr (Ta O a) H H' → FeedAt H' a cl → Pe H' O' q m' → Usn m m' → Nw m m' → Q .non H'
def spUr : Sp := fun vs H Q _ => ∃ (O : Addr → Prop) (q a cl : Addr) (m : Mc), vs = [.ref q, .ref a] ∧ Pe H O q m ∧ FeedAt H a cl ∧ (∀ b, O b → b ≠ a ∧ b ≠ cl) ∧ m.n ≤ 900 ∧ m.k ≤ 4 ∧
  ∀ (H' : Hp) (O' : Addr → Prop) (m' : Mc), (∀ b, O' b → O b ∨ H b = none) → Fr (Ta O a) H H' → FeedAt H' a cl → Pe H' O' q m' → Unr m m' → Nw m m' → Q .non H'
structure UsT (n : Nat) (U V' : Nat → Nat → Rat) : Prop where
  a : ∀ i, i < n → ∀ j, j < n → V' i j = U i j
  z : ∀ j, j < n → V' n j = 0
  r : ∀ i, i ≤ n → Sml (V' i n)
structure UrT (n : Nat) (U V' : Nat → Nat → Rat) : Prop where
  a : ∀ i, i < n → ∀ j, j < n → V' i j = U i j
  z : ∀ i, i < n → V' i n = 0
  l : ∀ i, i ≤ n → Sml (V' n i)
section
variable {P : Program} {w : World} {K : PySem.W.Frag} {mg : Str → Option Value} {base : Heap}
theorem free_fr {W : Addr → Prop} {H G : Hp} {b : Addr} (f : Fr W H G) (h : G b = none) : H b = none := f.k.free h
theorem ok_us {f fP : Addr} {fd dP : FuncData} (F : Fun K "_law_unseen" "_law_unseen" sUnseen f fd) (T : TxtL mg) (cPr : CalN P w K mg base "_law_pair" 34 ["tape"] spPr fP dP) : FnOk P w K mg base CX0 35 f fd ["parts", "tape"] spUs := by
  refine F.ok scUs (fun vs H Q E h => ?_) (fun cdv A outer s H vs Q E hr h => ?_)
  · obtain ⟨O, q, a, cl, m, rfl, _⟩ := h
    rfl
  · obtain ⟨O, q, a, cl, mm, rfl, ⟨ps, pt, pe, sa, X, m⟩, hF, dis, hn, hk, kk⟩ := h
    obtain ⟨k, n, us, ut, ue⟩ := mm
    dsimp only at m hn hk
    have hr34 : Room 34 _ := hr
    obtain ⟨xs, hxs, lxs, _⟩ := m.rs.ex
    have aO : ¬ O a := fun z => (dis a z).1 rfl
    have dis2 : ∀ b, O b ∨ H b = none → b ≠ a ∧ b ≠ cl := fun b z => by
      rcases z with z | z
      · exact dis b z
      · exact ⟨fun e => hF.there (by rw [← e]; exact z), fun e => by obtain ⟨ys, h⟩ := hF.lst2; rw [← e, z] at h; cases h⟩
    refine ⟨_, pss_cons (ps_set (i := 2) scUs.nd rfl (.inl rfl) (pe_callB call_len_seq (by rfl) T.len PySem.boot_len (pa_cons (pe_ix ix_list (pv 0) pe_int (fun _ _ => rfl)) pa_nil)))
      (pss_cons (ps_expr (pe_bm PySem.F.plainAttrs_list PySem.F.slot_list_append PySem.F.type_list_append mt_append (pe_ix ix_list (pv 0) pe_int (fun _ _ => rfl)) (pa_cons (pe_call cPr.G hr34 rfl cPr.m cPr.kp cPr.b .nil pass0 (pa_cons (pv 1) pa_nil)) pa_nil)))
      (pss_cons (ps_for PassesOwn.never rfl (pi_range1 (by rfl) T.range (pa_cons (pe_ix ix_list (pv 0) pe_int (fun _ _ => rfl)) pa_nil)) (pg_name (i := 3) scUs.nd rfl (.inl rfl))
        (pss_cons (ps_set (i := 4) scUs.nd rfl (.inl rfl) (pe_ix ix_list (pe_ix ix_list (pv 0) pe_int (fun _ _ => rfl)) (pv 3) (fun _ _ => rfl)))
        (pss_cons (ps_for PassesOwn.never rfl (pi_range1 (by rfl) T.range (pa_cons (pv 2) pa_nil)) (pg_name (i := 5) scUs.nd rfl (.inl rfl))
          (pss_cons (ps_set (i := 6) scUs.nd rfl (.inl rfl) (pe_ix ix_list (pv 4) (pv 5) (fun _ _ => rfl)))
          (pss_one (ps_expr (pe_bm PySem.F.plainAttrs_list PySem.F.slot_list_append PySem.F.type_list_append mt_append (pv 6) (pa_cons (pe_call cPr.G hr34 rfl cPr.m cPr.kp cPr.b .nil pass0 (pa_cons (pv 1) pa_nil)) pa_nil))))))
        (pss_one (ps_expr (pe_bm PySem.F.plainAttrs_list PySem.F.slot_list_append PySem.F.type_list_append mt_append (pv 4) (pa_cons (pe_op op_cat (pe_lc (own := [("place", 7)]) (g := gName 7) (tt := tYes) rfl scUs.nd (pi_range1 (by rfl) T.range (pa_cons (pv 2) pa_nil)) (blkOk_by (N := ["parts", "tape", "size", "letter", "step", "at", "row", "place"]) (sc := (defScope sUnseen)) (by decide +kernel)) (fun _ _ _ _ _ => (pg_name (i := 7) scUs.nd rfl (.inl rfl))) (fun _ _ _ _ _ => pts_nil) (fun _ _ _ _ _ => (pe_tup (pa_cons pe_int (pa_cons pe_int pa_nil))))) (pe_lst (pa_cons (pe_call cPr.G hr34 rfl cPr.m cPr.kp cPr.b .nil pass0 (pa_cons (pv 1) pa_nil)) pa_nil))) pa_nil)))))))
      (pss_one (ps_expr (pe_bm PySem.F.plainAttrs_list PySem.F.slot_list_append PySem.F.type_list_append mt_append (pe_ix ix_list (pv 0) pe_int (fun _ _ => rfl)) (pa_cons (pe_tup (pa_cons pe_int (pa_cons pe_int pa_nil))) pa_nil)))))), ?_⟩
    refine ⟨_, rfl, q, _, 1, _, rfl, rfl, SqL.of m.hq, rfl, ps, xs, rfl, .inl (SqL.of hxs), ?_⟩
    rw [lxs]
    refine ⟨_, rfl, q, _, 1, _, rfl, rfl, SqL.of m.hq, rfl, .inl ⟨rfl, _, SqL.of hxs⟩, _, rfl, a, cl, rfl, hF, fun r1 v1 G1 f1 b1 nr1 hr1 sm1 => ?_⟩
    have g1 : Fr (K1 a) H G1 := Fr.but b1 hF f1
    have m1 := m.fr g1 fun b z e => aO (by rw [← show b = a from e]; exact z)
    have hxs1 := g1.get hxs fun e => aO (by rw [← show ps = a from e]; exact m.os)
    refine ⟨ps, xs, _, rfl, rfl, hxs1, by rw [lxs]; exact small1000 (by omega), ?_⟩
    have g2 : Fr (K1 ps) G1 (upd G1 ps (.lst (xs ++ [.ref r1]))) := Fr.updL rfl hxs1
    have m2 := m1.setS g2 (fun _ z _ => z) (m1.rs.push hxs1 hr1)
    have f2 := f1.fr g2 (fun e => (dis ps m.os).1 e.symm) (fun e => (dis ps m.os).2 e.symm)
    have g12 : Fr (Ta O a) H (upd G1 ps (.lst (xs ++ [.ref r1]))) := (g1.more fun b z => .inr z).trans (g2.more fun b z => .inl (by rw [z]; exact m.os))
    generalize upd G1 ps (.lst (xs ++ [.ref r1])) = G2 at *
    refine ⟨_, rfl, q, _, 0, _, rfl, rfl, SqL.of m2.hq, rfl, k, rfl, by omega, by omega, for_range (n := k) (fun x σ G => ∃ o3 o4 o5 o6 O2 X2 Tn, σ = [some (.ref q), some (.ref a), some (.int (n : Int)), o3, o4, o5, o6, none] ∧ (∀ b, O2 b → O b ∨ H b = none) ∧ Fr (Ta O a) H G ∧ FeedAt G a cl ∧ (∀ y, y < x → UsT n (ut y) (Tn y)) ∧ PtE G O2 q ps pt pe k sa X2 (n + 1) n (fun y => if y < x then n + 1 else n) (ext us n v1) ue (fun y => if y < x then Tn y else ut y))
      ⟨none, none, none, none, O, X, ut, rfl, fun b z => .inl z, g12, f2, fun y hy => absurd hy (by omega), m2.cong (fun x hx => by rw [if_neg (by omega)]) fun x hx => by rw [if_neg (by omega)]⟩ ?_ ?_⟩
    · rintro x σ G hx ⟨o3, o4, o5, o6, O2, X2, Tn, rfl, sub, f3, fe3, hT, m3⟩
      obtain ⟨ra, tx⟩ := m3.tt x hx
      rw [if_neg (by omega), if_neg (by omega)] at tx
      have XO2 : ∀ b, X2 x b → O2 b := fun b z => (m3.ox x hx b z).1
      have XO : ∀ b, X2 x b → O b ∨ H b = none := fun b z => sub b (XO2 b z)
      have disX : ∀ b, X2 x b → b ≠ a ∧ b ≠ cl := fun b z => dis2 b (XO b z)
      refine ⟨_, rfl, q, _, 2, _, rfl, rfl, SqL.of m3.hq, rfl, _, rfl, pt, _, _, _, rfl, rfl, SqL.of m3.ht, at_of (Int.zero_add _) (TabR.get hx), ?_⟩
      refine ⟨_, rfl, n, rfl, by omega, by omega, for_range (n := n) (fun r σ G4 => ∃ o5 o6 cc, σ = [some (.ref q), some (.ref a), some (.int (n : Int)), some (.int (0 + (x : Int))), some (.ref (sa x)), o5, o6, none] ∧ Fr (Ta (X2 x) a) G G4 ∧ FeedAt G4 a cl ∧ (∀ i, i < r → Sml (cc i)) ∧ MidN G4 (sa x) n n (n + 1) ra (ut x) (fun r => ext (ut x r) n (cc r)) r)
        ⟨o5, o6, fun _ => 0, rfl, Fr.refl, fe3, fun i z => absurd z (by omega), tx.hp, fun i z => absurd z (by omega), fun i _ z => tx.rows i z⟩ ?_ ?_⟩
      · rintro r σ G4 hrr ⟨o5, o6, cc, rfl, f4, fe4, hc, md⟩
        have row := md.b r (Nat.le_refl _) hrr
        obtain ⟨ys, hys, lys, _⟩ := row.ex
        refine ⟨_, rfl, _, rfl, sa x, _, _, _, rfl, rfl, SqL.of md.hp, at_of (Int.zero_add _) (TabR.get hrr), ?_⟩
        refine ⟨_, rfl, .inl ⟨rfl, _, SqL.of hys⟩, _, rfl, a, cl, rfl, fe4, fun r5 v5 G5 f5 b5 nr5 hr5 sm5 => ?_⟩
        have g5 : Fr (K1 a) G4 G5 := Fr.but b5 fe4 f5
        have ra_a : ∀ i, i < n → ¬ K1 a (ra i) := fun i hi z => (disX _ (tx.orr i hi)).1 z
        have md5 := md.fr g5 (fun z => (disX _ tx.op).1 z) ra_a
        have hys5 := g5.get hys (ra_a r hrr)
        refine ⟨ra r, ys, _, rfl, rfl, hys5, by rw [lys]; exact small1000 (by omega), ?_⟩
        have g6 : Fr (K1 (ra r)) G5 (upd G5 (ra r) (.lst (ys ++ [.ref r5]))) := Fr.updL rfl hys5
        have row6 := (md5.b r (Nat.le_refl _) hrr).push hys5 hr5
        have md5' : MidN G5 (sa x) n n (n + 1) ra (ut x) (fun i => ext (ut x i) n (ext cc r v5 i)) r := md5.congr fun i hi => by rw [ext_lt cc v5 hi]
        refine ⟨_, _, ext cc r v5, rfl, (f4.trans (g5.more fun b z => .inr z)).trans (g6.more fun b z => .inl (by rw [z]; exact tx.orr r hrr)), f5.fr g6 (fun e => (disX _ (tx.orr r hrr)).1 e.symm) (fun e => (disX _ (tx.orr r hrr)).2 e.symm), fun i hi => ?_, md5'.step tx hrr g6 (by rw [ext_same]; exact row6)⟩
        by_cases e : i = r
        · rw [e, ext_same]; exact sm5
        · rw [ext_lt cc v5 (by omega)]; exact hc i (by omega)
      · rintro σ G4 ⟨o5, o6, cc, rfl, f4, fe4, hc, md⟩
        refine ⟨_, rfl, .inl ⟨rfl, _, SqL.of md.hp⟩, _, rfl, n, rfl, by omega, by omega, fun D nD => ?_⟩
        refine lc_it (walk_range (lo := 0) (n := n)) (fun i G => Bl Emp G4 D i (fun _ => 0) G) (bl0 nD _) (fun _ _ _ _ => trivial) ?_ ?_
        · rintro i y G5 G6 hi b ⟨rfl, rfl⟩
          refine ⟨rfl, (by show 2 ≤ sizeLine; decide), fun c nc => ?_⟩
          obtain ⟨acc, a1, a2, a3⟩ := b.step (p := c) (q := 0) nD id (Same.fr (Same.upd nc)) (show PairAt _ c 0 1 from upd_same)
          refine ⟨acc, a1, by rw [a2]; exact small1000 (by omega), a3.congr fun j hj => ?_⟩
          by_cases e : j = i
          · rw [e, ext_same]
          · rw [ext_lt _ _ (by omega)]
        · rintro G5 b
          have s5 : Same G4 G5 := b.f.k.same
          obtain ⟨acc, hacc, lacc, pacc⟩ := b.r.ex
          refine ⟨_, rfl, a, cl, rfl, fe4.same s5, fun r6 v6 G6 f6 b6 nr6 hr6 sm6 => ?_⟩
          have g6 : Fr (K1 a) G5 G6 := Fr.but b6 (fe4.same s5) f6
          have Da : D ≠ a := (fe4.ne_new nD).1
          refine ⟨(by show 1 ≤ sizeLine; decide), fun l nl => ?_⟩
          have s7 : Same G6 (upd G6 l (.lst [.ref r6])) := Same.upd nl
          have hl : (upd G6 l (.lst [.ref r6])) l = some (.lst [.ref r6]) := upd_same
          generalize upd G6 l (.lst [.ref r6]) = G7 at *
          have hD7 := s7 _ _ (g6.get hacc Da)
          refine ⟨D, l, acc, [.ref r6], rfl, rfl, hD7, hl, by rw [lacc]; exact Nat.le_of_lt (small1000 (show n + 1 ≤ 1000 by omega)), fun D8 nD8 => ?_⟩
          have s8 : Same G7 (upd G7 D8 (.lst (acc ++ [.ref r6]))) := Same.upd nD8
          have row8 : RowE (upd G7 D8 (.lst (acc ++ [.ref r6]))) D8 (n + 1) (ext (fun _ => 0) n v6) := ⟨_, upd_same, by rw [List.length_append, lacc]; rfl, fun j hj => by
            by_cases e : j = n
            · refine ⟨r6, by rw [List.getElem?_append_right (by omega), lacc, e]; simp, ?_⟩
              rw [e, ext_same]
              exact s8 _ _ (s7 _ _ hr6)
            · obtain ⟨p9, e9, h9⟩ := pacc j (by omega)
              refine ⟨p9, by rw [List.getElem?_append_left (by omega)]; exact e9, ?_⟩
              rw [ext_lt _ _ (by omega)]
              exact s8 _ _ (s7 _ _ (g6.t _ _ h9))⟩
          generalize upd G7 D8 (.lst (acc ++ [.ref r6])) = G8 at *
          have g48 : Fr (K1 a) G4 G8 := ((Same.fr s5).trans g6).trans (Same.fr (s7.trans s8))
          have nD4 : G4 D8 = none := s5.free (g6.k.free (s7.free nD8))
          have nDG : G D8 = none := f4.k.free nD4
          have nDH : H D8 = none := f3.k.free nDG
          have kX : ∀ b, K1 a b → ¬ X2 x b := fun b z y => (disX b y).1 z
          have md8 := md.fr g48 (fun z => kX _ z tx.op) fun i hi z => kX _ z (tx.orr i hi)
          have nX : ¬ X2 x D8 := fun z => m3.al _ (XO2 _ z) nDG
          have al8 : Alc (X2 x) G8 := tx.al.keep (f4.trans (g48.more fun b z => .inr z)).k
          have t8 := tx.push md8.hp (fun i hi => md8.a i hi hi) al8 nX row8
          refine ⟨sa x, _, _, rfl, rfl, md8.hp, by rw [List.length_map, List.length_range]; exact small1000 (by omega), ?_⟩
          have g9 : Fr (Ta (X2 x) a) G (upd G8 (sa x) (.lst (((List.range n).map fun i => V.ref (ra i)) ++ [.ref D8]))) := (f4.trans (g48.more fun b z => .inr z)).trans (Fr.updL (.inl tx.op) md8.hp)
          have m9 := m3.setX hx g9 (fun b z y => z.elim id fun e => absurd e (dis2 b (sub b y)).1) (fun b z => z.imp id fun e => by rw [e]; exact nDG) t8
          refine ⟨_, _, _, _, _, _, fun y => if y = x then ext (fun r => ext (ut x r) n (cc r)) n (ext (fun _ => 0) n v6) else Tn y, rfl, fun b z => ?_, ?_, ?_, fun y hy => ?_, m9.cong (fun y hy => ?_) fun y hy => ?_⟩
          · rcases z with z | z
            · exact sub b z
            · rcases z with z | z
              · exact XO b z
              · exact .inr (by rw [z]; exact nDH)
          · exact Fr.dropS (W := fun b => Ta O a b ∨ X2 x b) ((f3.more fun _ z => .inl z).trans (g9.more fun b z => z.elim .inr fun e => .inl (.inr e))) fun b z => z.elim .inl fun z => (XO b z).imp .inl id
          · exact ((f6.same s7).same s8).fr (Fr.updL (W := K1 (sa x)) rfl md8.hp) (fun e => (disX _ tx.op).1 e.symm) (fun e => (disX _ tx.op).2 e.symm)
          · by_cases e : y = x
            · dsimp only
              rw [if_pos e, e]
              refine ⟨fun i hi j hj => by rw [ext_lt _ _ hi, ext_lt _ _ hj], fun j hj => by rw [ext_same, ext_lt _ _ hj], fun i hi => ?_⟩
              by_cases e3 : i = n
              · rw [e3, ext_same, ext_same]; exact sm6
              · rw [ext_lt _ _ (by omega), ext_same]; exact hc i (by omega)
            · dsimp only
              rw [if_neg e]
              exact hT y (by omega)
          · by_cases e : y = x
            · rw [if_pos e, if_pos (by omega)]
            · rw [if_neg e]
              by_cases e2 : y < x
              · rw [if_pos e2, if_pos (by omega)]
              · rw [if_neg e2, if_neg (by omega)]
          · by_cases e : y = x
            · dsimp only
              rw [if_pos e, if_pos (by omega), if_pos e]
            · dsimp only
              rw [if_neg e]
              by_cases e2 : y < x
              · rw [if_pos e2, if_pos (by omega), if_neg e]
              · rw [if_neg e2, if_neg (by omega)]
    · rintro σ G ⟨o3, o4, o5, o6, O2, X2, Tn, rfl, sub, f3, fe3, hT, m3⟩
      obtain ⟨es, hes, les, _⟩ := m3.re.ex
      refine ⟨_, rfl, q, _, 3, _, rfl, rfl, SqL.of m3.hq, rfl, .inl ⟨rfl, _, SqL.of hes⟩, (by show 2 ≤ sizeLine; decide), fun c nc => ?_⟩
      have s4 : Same G (upd G c (.tup [.int 0, .int 1])) := Same.upd nc
      have hc : PrQ (upd G c (.tup [.int 0, .int 1])) c 0 := (show PairAt _ c 0 1 from upd_same)
      generalize upd G c (.tup [.int 0, .int 1]) = G4 at *
      refine ⟨pe, es, _, rfl, rfl, s4 _ _ hes, by rw [les]; exact small1000 (by omega), ?_⟩
      have m4 := m3.same s4
      have g5 : Fr (K1 pe) G4 (upd G4 pe (.lst (es ++ [.ref c]))) := Fr.updL rfl (s4 _ _ hes)
      have m5 := m4.setE g5 (fun _ z _ => z) (m4.re.push (s4 _ _ hes) hc)
      have pO := sub _ m3.oe
      refine kk _ O2 ⟨k, n + 1, ext us n v1, Tn, ext ue n 0⟩ sub ?_ ((fe3.same s4).fr g5 (fun e => (dis2 _ pO).1 e.symm) (fun e => (dis2 _ pO).2 e.symm)) ⟨ps, pt, pe, sa, X2, m5.cong (fun x hx => by rw [if_pos hx]) fun x hx => by rw [if_pos hx]⟩ ⟨rfl, rfl, fun j hj => ext_lt _ _ hj, fun x hx => (hT x hx).a, fun x hx => (hT x hx).z, fun j hj => ext_lt _ _ hj, ext_same _ _ _⟩ ⟨by dsimp only; rw [ext_same]; exact sm1, by dsimp only; rw [ext_same]; exact sml0, fun x hx => (hT x hx).r, fun x hx i hi => ?_⟩
      · exact (f3.trans (Same.fr s4)).trans (g5.more fun b z => .inl (by rw [z]; exact m.oe))
      · by_cases e : i = n
        · rw [e]; exact (hT x hx).r n (Nat.le_refl _)
        · have hi : i ≤ n := hi
          have := (hT x hx).z i (by omega)
          dsimp only
          rw [this]
          exact sml0
end
end RX

set_option Elab.async false
set_option maxRecDepth 100000
namespace RX
open PySem L2 LX VA VM VN
open RQ (Hg Bt)
section
variable {P : Program} {w : World} {K : PySem.W.Frag} {mg : Str → Option Value} {base : Heap}
theorem ok_ur {f fP : Addr} {fd dP : FuncData} (F : Fun K "_law_unreached" "_law_unreached" sUnreached f fd) (T : TxtL mg) (cPr : CalN P w K mg base "_law_pair" 34 ["tape"] spPr fP dP) : FnOk P w K mg base CX0 35 f fd ["parts", "tape"] spUr := by
  refine F.ok scUr (fun vs H Q E h => ?_) (fun cdv A outer s H vs Q E hr h => ?_)
  · obtain ⟨O, q, a, cl, m, rfl, _⟩ := h
    rfl
  · obtain ⟨O, q, a, cl, mm, rfl, ⟨ps, pt, pe, sa, X, m⟩, hF, dis, hn, hk, kk⟩ := h
    obtain ⟨k, n, us, ut, ue⟩ := mm
    dsimp only at m hn hk
    have hr34 : Room 34 _ := hr
    obtain ⟨xs, hxs, lxs, _⟩ := m.rs.ex
    have aO : ¬ O a := fun z => (dis a z).1 rfl
    have dis2 : ∀ b, O b ∨ H b = none → b ≠ a ∧ b ≠ cl := fun b z => by
      rcases z with z | z
      · exact dis b z
      · exact ⟨fun e => hF.there (by rw [← e]; exact z), fun e => by obtain ⟨ys, h⟩ := hF.lst2; rw [← e, z] at h; cases h⟩
    refine ⟨_, pss_cons (ps_set (i := 2) scUr.nd rfl (.inl rfl) (pe_callB call_len_seq (by rfl) T.len PySem.boot_len (pa_cons (pe_ix ix_list (pv 0) pe_int (fun _ _ => rfl)) pa_nil)))
      (pss_cons (ps_expr (pe_bm PySem.F.plainAttrs_list PySem.F.slot_list_append PySem.F.type_list_append mt_append (pe_ix ix_list (pv 0) pe_int (fun _ _ => rfl)) (pa_cons (pe_tup (pa_cons pe_int (pa_cons pe_int pa_nil))) pa_nil)))
      (pss_cons (ps_for PassesOwn.never rfl (pi_range1 (by rfl) T.range (pa_cons (pe_ix ix_list (pv 0) pe_int (fun _ _ => rfl)) pa_nil)) (pg_name (i := 3) scUr.nd rfl (.inl rfl))
        (pss_cons (ps_set (i := 4) scUr.nd rfl (.inl rfl) (pe_ix ix_list (pe_ix ix_list (pv 0) pe_int (fun _ _ => rfl)) (pv 3) (fun _ _ => rfl)))
        (pss_cons (ps_for PassesOwn.never rfl (pi_range1 (by rfl) T.range (pa_cons (pv 2) pa_nil)) (pg_name (i := 5) scUr.nd rfl (.inl rfl))
          (pss_cons (ps_set (i := 6) scUr.nd rfl (.inl rfl) (pe_ix ix_list (pv 4) (pv 5) (fun _ _ => rfl)))
          (pss_one (ps_expr (pe_bm PySem.F.plainAttrs_list PySem.F.slot_list_append PySem.F.type_list_append mt_append (pv 6) (pa_cons (pe_tup (pa_cons pe_int (pa_cons pe_int pa_nil))) pa_nil))))))
        (pss_one (ps_expr (pe_bm PySem.F.plainAttrs_list PySem.F.slot_list_append PySem.F.type_list_append mt_append (pv 4) (pa_cons (pe_lc (own := [("place", 7)]) (g := gName 7) (tt := tYes) rfl scUr.nd (pi_range1 (by rfl) T.range (pa_cons (pe_op op_add (pv 2) pe_int) pa_nil)) (blkOk_by (N := ["parts", "tape", "size", "letter", "step", "at", "row", "place"]) (sc := (defScope sUnreached)) (by decide +kernel)) (fun _ _ _ _ _ => (pg_name (i := 7) scUr.nd rfl (.inl rfl))) (fun _ _ _ _ _ => pts_nil) (fun _ _ _ _ _ => (pe_call cPr.G hr34 rfl cPr.m cPr.kp cPr.b .nil pass0 (pa_cons (pv 1) pa_nil)))) pa_nil)))))))
      (pss_one (ps_expr (pe_bm PySem.F.plainAttrs_list PySem.F.slot_list_append PySem.F.type_list_append mt_append (pe_ix ix_list (pv 0) pe_int (fun _ _ => rfl)) (pa_cons (pe_call cPr.G hr34 rfl cPr.m cPr.kp cPr.b .nil pass0 (pa_cons (pv 1) pa_nil)) pa_nil)))))), ?_⟩
    refine ⟨_, rfl, q, _, 1, _, rfl, rfl, SqL.of m.hq, rfl, ps, xs, rfl, .inl (SqL.of hxs), ?_⟩
    rw [lxs]
    refine ⟨_, rfl, q, _, 1, _, rfl, rfl, SqL.of m.hq, rfl, .inl ⟨rfl, _, SqL.of hxs⟩, (by show 2 ≤ sizeLine; decide), fun c nc => ?_⟩
    have s1 : Same H (upd H c (.tup [.int 0, .int 1])) := Same.upd nc
    have hc : PrQ (upd H c (.tup [.int 0, .int 1])) c 0 := (show PairAt _ c 0 1 from upd_same)
    generalize upd H c (.tup [.int 0, .int 1]) = G1 at *
    have m1 := m.same s1
    have hxs1 := s1 _ _ hxs
    refine ⟨ps, xs, _, rfl, rfl, hxs1, by rw [lxs]; exact small1000 (by omega), ?_⟩
    have g2 : Fr (K1 ps) G1 (upd G1 ps (.lst (xs ++ [.ref c]))) := Fr.updL rfl hxs1
    have m2 := m1.setS g2 (fun _ z _ => z) (m1.rs.push hxs1 hc)
    have f2 := (hF.same s1).fr g2 (fun e => (dis ps m.os).1 e.symm) (fun e => (dis ps m.os).2 e.symm)
    have g12 : Fr (Ta O a) H (upd G1 ps (.lst (xs ++ [.ref c]))) := (Same.fr s1).trans (g2.more fun b z => .inl (by rw [z]; exact m.os))
    generalize upd G1 ps (.lst (xs ++ [.ref c])) = G2 at *
    refine ⟨_, rfl, q, _, 0, _, rfl, rfl, SqL.of m2.hq, rfl, k, rfl, by omega, by omega, for_range (n := k) (fun x σ G => ∃ o3 o4 o5 o6 O2 X2 Tn, σ = [some (.ref q), some (.ref a), some (.int (n : Int)), o3, o4, o5, o6, none] ∧ (∀ b, O2 b → O b ∨ H b = none) ∧ Fr (Ta O a) H G ∧ FeedAt G a cl ∧ (∀ y, y < x → UrT n (ut y) (Tn y)) ∧ PtE G O2 q ps pt pe k sa X2 (n + 1) n (fun y => if y < x then n + 1 else n) (ext us n 0) ue (fun y => if y < x then Tn y else ut y))
      ⟨none, none, none, none, O, X, ut, rfl, fun b z => .inl z, g12, f2, fun y hy => absurd hy (by omega), m2.cong (fun x hx => by rw [if_neg (by omega)]) fun x hx => by rw [if_neg (by omega)]⟩ ?_ ?_⟩
    · rintro x σ G hx ⟨o3, o4, o5, o6, O2, X2, Tn, rfl, sub, f3, fe3, hT, m3⟩
      obtain ⟨ra, tx⟩ := m3.tt x hx
      rw [if_neg (by omega), if_neg (by omega)] at tx
      have XO2 : ∀ b, X2 x b → O2 b := fun b z => (m3.ox x hx b z).1
      have XO : ∀ b, X2 x b → O b ∨ H b = none := fun b z => sub b (XO2 b z)
      have disX : ∀ b, X2 x b → b ≠ a ∧ b ≠ cl := fun b z => dis2 b (XO b z)
      refine ⟨_, rfl, q, _, 2, _, rfl, rfl, SqL.of m3.hq, rfl, _, rfl, pt, _, _, _, rfl, rfl, SqL.of m3.ht, at_of (Int.zero_add _) (TabR.get hx), ?_⟩
      refine ⟨_, rfl, n, rfl, by omega, by omega, for_range (n := n) (fun r σ G4 => ∃ o5 o6, σ = [some (.ref q), some (.ref a), some (.int (n : Int)), some (.int (0 + (x : Int))), some (.ref (sa x)), o5, o6, none] ∧ Fr (Ta (X2 x) a) G G4 ∧ FeedAt G4 a cl ∧ MidN G4 (sa x) n n (n + 1) ra (ut x) (fun r => ext (ut x r) n 0) r)
        ⟨o5, o6, rfl, Fr.refl, fe3, tx.hp, fun i z => absurd z (by omega), fun i _ z => tx.rows i z⟩ ?_ ?_⟩
      · rintro r σ G4 hrr ⟨o5, o6, rfl, f4, fe4, md⟩
        have row := md.b r (Nat.le_refl _) hrr
        obtain ⟨ys, hys, lys, _⟩ := row.ex
        refine ⟨_, rfl, _, rfl, sa x, _, _, _, rfl, rfl, SqL.of md.hp, at_of (Int.zero_add _) (TabR.get hrr), ?_⟩
        refine ⟨_, rfl, .inl ⟨rfl, _, SqL.of hys⟩, (by show 2 ≤ sizeLine; decide), fun c nc => ?_⟩
        have s5 : Same G4 (upd G4 c (.tup [.int 0, .int 1])) := Same.upd nc
        have hc : PrQ (upd G4 c (.tup [.int 0, .int 1])) c 0 := (show PairAt _ c 0 1 from upd_same)
        generalize upd G4 c (.tup [.int 0, .int 1]) = G5 at *
        have md5 := md.fr (Same.fr (W := Emp) s5) id fun _ _ => id
        have hys5 := s5 _ _ hys
        refine ⟨ra r, ys, _, rfl, rfl, hys5, by rw [lys]; exact small1000 (by omega), ?_⟩
        have g6 : Fr (K1 (ra r)) G5 (upd G5 (ra r) (.lst (ys ++ [.ref c]))) := Fr.updL rfl hys5
        have row6 := (md5.b r (Nat.le_refl _) hrr).push hys5 hc
        refine ⟨_, _, rfl, (f4.trans (Same.fr s5)).trans (g6.more fun b z => .inl (by rw [z]; exact tx.orr r hrr)), (fe4.same s5).fr g6 (fun e => (disX _ (tx.orr r hrr)).1 e.symm) (fun e => (disX _ (tx.orr r hrr)).2 e.symm), md5.step tx hrr g6 row6⟩
      · rintro σ G4 ⟨o5, o6, rfl, f4, fe4, md⟩
        refine ⟨_, rfl, .inl ⟨rfl, _, SqL.of md.hp⟩, _, rfl, _, _, rfl, rfl, n + 1, rfl, by omega, by omega, fun D8 nD8 => ?_⟩
        have Da : D8 ≠ a := (fe4.ne_new nD8).1
        have Dc : D8 ≠ cl := (fe4.ne_new nD8).2
        have f0 : FeedAt (upd G4 D8 (.lst [])) a cl := fe4.other Da Dc
        refine lc_it (walk_range (lo := 0) (n := n + 1)) (fun i G => (∃ cc : Nat → Rat, (∀ j, j < i → Sml (cc j)) ∧ Bl (K1 a) G4 D8 i cc G) ∧ FeedAt G a cl) ⟨⟨fun _ => 0, fun j hj => absurd hj (by omega), bl0 nD8 _⟩, f0⟩ (fun _ _ _ _ => trivial) ?_ ?_
        · rintro i y G5 G6 hi ⟨⟨cc, hc, b⟩, fb⟩ ⟨rfl, rfl⟩
          refine ⟨rfl, _, rfl, a, cl, rfl, fb, fun r7 v7 G7 f7 b7 nr7 hr7 sm7 => ?_⟩
          obtain ⟨acc, a1, a2, a3⟩ := b.step nD8 (fun z => Da z) (Fr.but b7 fb f7) hr7
          refine ⟨acc, a1, by rw [a2]; exact small1000 (by omega), ⟨_, fun j hj => ?_, a3⟩, f7.other Da Dc⟩
          by_cases e : j = i
          · rw [e, ext_same]; exact sm7
          · rw [ext_lt _ _ (by omega)]; exact hc j (by omega)
        · rintro G8 ⟨⟨cc, hc, b⟩, f8⟩
          have row8 := b.r
          have g48 := b.f
          have nDG : G D8 = none := f4.k.free nD8
          have nDH : H D8 = none := f3.k.free nDG
          have kX : ∀ b, K1 a b → ¬ X2 x b := fun b z y => (disX b y).1 z
          have md8 := md.fr g48 (fun z => kX _ z tx.op) fun i hi z => kX _ z (tx.orr i hi)
          have nX : ¬ X2 x D8 := fun z => m3.al _ (XO2 _ z) nDG
          have al8 : Alc (X2 x) G8 := tx.al.keep (f4.trans (g48.more fun b z => .inr z)).k
          have t8 := tx.push md8.hp (fun i hi => md8.a i hi hi) al8 nX row8
          refine ⟨sa x, _, _, rfl, rfl, md8.hp, by rw [List.length_map, List.length_range]; exact small1000 (by omega), ?_⟩
          have g9 : Fr (Ta (X2 x) a) G (upd G8 (sa x) (.lst (((List.range n).map fun i => V.ref (ra i)) ++ [.ref D8]))) := (f4.trans (g48.more fun b z => .inr z)).trans (Fr.updL (.inl tx.op) md8.hp)
          have m9 := m3.setX hx g9 (fun b z y => z.elim id fun e => absurd e (dis2 b (sub b y)).1) (fun b z => z.imp id fun e => by rw [e]; exact nDG) t8
          refine ⟨_, _, _, _, _, _, fun y => if y = x then ext (fun r => ext (ut x r) n 0) n cc else Tn y, rfl, fun b z => ?_, ?_, ?_, fun y hy => ?_, m9.cong (fun y hy => ?_) fun y hy => ?_⟩
          · rcases z with z | z
            · exact sub b z
            · rcases z with z | z
              · exact XO b z
              · exact .inr (by rw [z]; exact nDH)
          · exact Fr.dropS (W := fun b => Ta O a b ∨ X2 x b) ((f3.more fun _ z => .inl z).trans (g9.more fun b z => z.elim .inr fun e => .inl (.inr e))) fun b z => z.elim .inl fun z => (XO b z).imp .inl id
          · exact f8.fr (Fr.updL (W := K1 (sa x)) rfl md8.hp) (fun e => (disX _ tx.op).1 e.symm) (fun e => (disX _ tx.op).2 e.symm)
          · by_cases e : y = x
            · dsimp only
              rw [if_pos e, e]
              exact ⟨fun i hi j hj => by rw [ext_lt _ _ hi, ext_lt _ _ hj], fun i hi => by rw [ext_lt _ _ hi, ext_same], fun i hi => by rw [ext_same]; exact hc i (by omega)⟩
            · dsimp only
              rw [if_neg e]
              exact hT y (by omega)
          · by_cases e : y = x
            · rw [if_pos e, if_pos (by omega)]
            · rw [if_neg e]
              by_cases e2 : y < x
              · rw [if_pos e2, if_pos (by omega)]
              · rw [if_neg e2, if_neg (by omega)]
          · by_cases e : y = x
            · dsimp only
              rw [if_pos e, if_pos (by omega), if_pos e]
            · dsimp only
              rw [if_neg e]
              by_cases e2 : y < x
              · rw [if_pos e2, if_pos (by omega), if_neg e]
              · rw [if_neg e2, if_neg (by omega)]
    · rintro σ G ⟨o3, o4, o5, o6, O2, X2, Tn, rfl, sub, f3, fe3, hT, m3⟩
      obtain ⟨es, hes, les, _⟩ := m3.re.ex
      refine ⟨_, rfl, q, _, 3, _, rfl, rfl, SqL.of m3.hq, rfl, .inl ⟨rfl, _, SqL.of hes⟩, _, rfl, a, cl, rfl, fe3, fun r4 v4 G4 f4 b4 nr4 hr4 sm4 => ?_⟩
      have g4 : Fr (K1 a) G G4 := Fr.but b4 fe3 f4
      have m4 := m3.fr g4 fun b z e => (dis2 b (sub b z)).1 e
      have pO := sub _ m3.oe
      have hes4 := g4.get hes fun e => (dis2 _ pO).1 e
      refine ⟨pe, es, _, rfl, rfl, hes4, by rw [les]; exact small1000 (by omega), ?_⟩
      have g5 : Fr (K1 pe) G4 (upd G4 pe (.lst (es ++ [.ref r4]))) := Fr.updL rfl hes4
      have m5 := m4.setE g5 (fun _ z _ => z) (m4.re.push hes4 hr4)
      refine kk _ O2 ⟨k, n + 1, ext us n 0, Tn, ext ue n v4⟩ sub ?_ (f4.fr g5 (fun e => (dis2 _ pO).1 e.symm) (fun e => (dis2 _ pO).2 e.symm)) ⟨ps, pt, pe, sa, X2, m5.cong (fun x hx => by rw [if_pos hx]) fun x hx => by rw [if_pos hx]⟩ ⟨rfl, rfl, fun j hj => ext_lt _ _ hj, ext_same _ _ _, fun x hx => (hT x hx).a, fun x hx => (hT x hx).z, fun j hj => ext_lt _ _ hj⟩ ⟨by dsimp only; rw [ext_same]; exact sml0, by dsimp only; rw [ext_same]; exact sm4, fun x hx i hi => ?_, fun x hx => (hT x hx).l⟩
      · exact (f3.trans (g4.more fun b z => .inr z)).trans (g5.more fun b z => .inl (by rw [z]; exact m.oe))
      · by_cases e : i = n
        · rw [e]; exact (hT x hx).l n (Nat.le_refl _)
        · have hi : i ≤ n := hi
          have := (hT x hx).z i (by omega)
          dsimp only
          rw [this]
          exact sml0
end
end RX

set_option Elab.async false
set_option maxRecDepth 100000
namespace RX
open PySem L2 LX VA VM VN
open RQ (Hg Bt)
abbrev sStepL : Stmt := topS 47
theorem scStp : FnScope ["tape", "size", "shape", "letter", "rows", "at", "row", "place", "number"] ["tape", "size", "shape", "letter"] (defScope sStepL) := ⟨rfl, rfl, rfl, by decide +kernel, rfl, by decide +kernel, by decide +kernel⟩

/-- a list that is built, its items told by Φ -/
structure Ls (W : Addr → Prop) (H0 : Hp) (D : Addr) (k : Nat) (Φ : Hp → V → Prop) (G : Hp) : Prop where
  xs : ∃ acc, G D = some (.lst acc) ∧ acc.length = k ∧ ∀ x ∈ acc, Φ G x
  f : Fr W H0 G
section
variable {W : Addr → Prop} {H0 G G3 : Hp} {D : Addr} {k : Nat} {Φ : Hp → V → Prop}
theorem ls0 (n : H0 D = none) : Ls W H0 D 0 Φ (upd H0 D (.lst [])) := ⟨⟨[], upd_same, rfl, fun _ h => absurd h List.not_mem_nil⟩, Same.fr (Same.upd n)⟩
theorem Ls.step {x : V} (b : Ls W H0 D k Φ G) (n : H0 D = none) (w : ¬ W D) (st : ∀ G G' y, Φ G y → Fr (And1 W D) G G' → Φ G' y) (f : Fr W G G3) (h : Φ G3 x) : ∃ acc, G3 D = some (.lst acc) ∧ acc.length = k ∧ Ls W H0 D (k + 1) Φ (upd G3 D (.lst (acc ++ [x]))) := by
  obtain ⟨acc, h1, h2, h3⟩ := b.xs
  have hD := f.get h1 w
  have fu : Fr (K1 D) G3 (upd G3 D (.lst (acc ++ [x]))) := Fr.updL rfl hD
  have fu2 : Fr (And1 W D) G3 (upd G3 D (.lst (acc ++ [x]))) := fu.more fun _ z => .inr z
  refine ⟨acc, hD, h2, ⟨_, upd_same, by rw [List.length_append, h2]; rfl, fun y hy => ?_⟩, ?_⟩
  · rcases List.mem_append.mp hy with hy | hy
    · exact st _ _ _ (st _ _ _ (h3 y hy) (f.more fun _ z => .inl z)) fu2
    · rw [List.mem_singleton.mp hy]
      exact st _ _ _ h fu2
  · exact Fr.dropS (W := fun b => W b ∨ b = D) (((b.f.trans f).more fun _ z => .inl z).trans (fu.more fun _ z => .inr z)) fun b z => z.imp id fun e => by rw [e]; exact n
end
theorem mem_set {α : Type} {x y : α} : ∀ {xs : List α} {i : Nat}, y ∈ xs.set i x → y = x ∨ y ∈ xs
  | [], _, h => by simp at h
  | z :: xs, 0, h => by
    rcases List.mem_cons.mp h with h | h
    · exact .inl h
    · exact .inr (List.mem_cons_of_mem _ h)
  | z :: xs, i + 1, h => by
    rcases List.mem_cons.mp h with h | h
    · exact .inr (by rw [h]; exact List.mem_cons_self)
    · exact (mem_set h).imp id (List.mem_cons_of_mem _)
def IntV (B : Nat) (x : V) : Prop := ∃ z : Int, x = .int z ∧ Bt B z
/-- n ints stand at a -/
def IntM (B : Nat) (H : Hp) (a : Addr) (n : Nat) : Prop := ∃ xs, H a = some (.lst xs) ∧ xs.length = n ∧ ∀ x ∈ xs, IntV B x
theorem IntM.fr {B : Nat} {W : Addr → Prop} {H H' : Hp} {a : Addr} {n : Nat} (h : IntM B H a n) (f : Fr W H H') (w : ¬ W a) : IntM B H' a n := let ⟨xs, h, l, e⟩ := h; ⟨xs, f.get h w, l, e⟩
theorem IntM.there {B : Nat} {H : Hp} {a : Addr} {n : Nat} (h : IntM B H a n) : H a ≠ none := by
  obtain ⟨xs, h, _⟩ := h
  rw [h]; intro z; cases z
theorem IntM.get {B : Nat} {H : Hp} {a : Addr} {n i : Nat} (h : IntM B H a n) (hi : i < n) : ∃ (xs : List V) (z : Int), H a = some (.lst xs) ∧ xs.length = n ∧ xs[i]? = some (.int z) ∧ Bt B z := by
  obtain ⟨xs, h, l, e⟩ := h
  have hl : i < xs.length := by omega
  obtain ⟨z, e1, b⟩ := e _ (List.getElem_mem hl)
  exact ⟨xs, z, h, l, by rw [List.getElem?_eq_getElem hl, e1], b⟩
theorem IntM.set {B : Nat} {H : Hp} {a : Addr} {n i : Nat} {xs : List V} {z : Int} (h : IntM B H a n) (hx : H a = some (.lst xs)) (b : Bt B z) : IntM B (upd H a (.lst (xs.set i (.int z)))) a n := by
  obtain ⟨ys, h, l, e⟩ := h
  rw [hx] at h
  obtain rfl : xs = ys := by injection h with h; injection h
  refine ⟨_, upd_same, by rw [List.length_set, l], fun x hx => ?_⟩
  rcases mem_set hx with rfl | hx
  · exact ⟨z, rfl, b⟩
  · exact e x hx
theorem bt80 {x : Int} (h : x.natAbs < 1000) : Bt 80 x := show x.natAbs < 2 ^ 80 by omega
theorem bt10 {x : Int} (h : x.natAbs < 1000) : Bt 10 x := show x.natAbs < 2 ^ 10 by omega
theorem bit10 (b : Bool) : Bt 10 (if b = true then 1 else 0 : Int) := by cases b <;> exact bt10 (by decide)
theorem bit80 (b : Bool) : Bt 80 (if b = true then 1 else 0 : Int) := by cases b <;> exact bt80 (by decide)
/-- what is new -/
def New (H G : Hp) : Addr → Prop := fun b => H b = none ∧ G b ≠ none
theorem New.up {H H' G : Hp} {b : Addr} {W : Addr → Prop} (f : Fr W H H') (h : New H' G b) : New H G b := ⟨f.k.free h.1, h.2⟩
theorem New.up2 {H G G' : Hp} {b : Addr} {W : Addr → Prop} (h : New H G b) (f : Fr W G G') : New H G' b := ⟨h.1, f.k.a _ h.2⟩
/-- a step: n rows of n ints -/
def StpM (B : Nat) (H : Hp) (P : Addr → Prop) (n : Nat) (x : V) : Prop := ∃ a ys, x = .ref a ∧ P a ∧ H a = some (.lst ys) ∧ ys.length = n ∧ ∀ y ∈ ys, ∃ b, y = .ref b ∧ P b ∧ IntM B H b n
theorem StpM.fr {B : Nat} {W P P' : Addr → Prop} {H H' : Hp} {n : Nat} {x : V} (h : StpM B H P n x) (f : Fr W H H') (w : ∀ b, P b → ¬ W b) (p : ∀ b, P b → P' b) : StpM B H' P' n x := by
  obtain ⟨a, ys, e, pa, ha, l, r⟩ := h
  refine ⟨a, ys, e, p _ pa, f.get ha (w _ pa), l, fun y hy => ?_⟩
  obtain ⟨b, e, pb, i⟩ := r y hy
  exact ⟨b, e, p _ pb, i.fr f (w _ pb)⟩
def spStp : Sp := fun vs H Q _ => ∃ (a cl : Addr) (n : Nat) (x sp : Int), vs = [.ref a, .int (n : Int), .int sp, .int (x : Int)] ∧ FeedAt H a cl ∧ n ≤ 900 ∧ ∀ (r : Addr) (H' : Hp), Fr (K1 a) H H' → FeedAt H' a cl → StpM 10 H' (New H H') n (.ref r) → Q (.ref r) H'
def BotV (x : V) : Prop := ∃ b : Int, x = .int b ∧ b ≠ 0 ∧ Bt 70 b
def BotM (H : Hp) (a : Addr) (k : Nat) : Prop := ∃ xs, H a = some (.lst xs) ∧ xs.length = k ∧ ∀ x ∈ xs, BotV x
def spBo : Sp := fun vs H Q _ => ∃ (a cl : Addr) (k n : Nat), vs = [.ref a, .int (k : Int), .int (n : Int)] ∧ FeedAt H a cl ∧ k ≤ 4 ∧ n ≤ 900 ∧ ∀ (r : Addr) (H' : Hp), Fr (K1 a) H H' → FeedAt H' a cl → New H H' r → BotM H' r (k + 2) → Q (.ref r) H'
section
variable {P : Program} {w : World} {K : PySem.W.Frag} {mg : Str → Option Value} {base : Heap}
theorem ok_stp {f fE : Addr} {fd dE : FuncData} (F : Fun K "_law_step" "_law_step" sStepL f fd) (T : TxtL mg) (cEn : CalN P w K mg base "_law_entry" 2 ["tape"] spEn fE dE) : FnOk P w K mg base CX0 3 f fd ["tape", "size", "shape", "letter"] spStp := by
  refine F.ok scStp (fun vs H Q E h => ?_) (fun cdv A outer s H vs Q E hr h => ?_)
  · obtain ⟨a, cl, n, x, sp, rfl, _⟩ := h
    rfl
  · obtain ⟨a, cl, n, x, sp, rfl, hF, hn, kk⟩ := h
    have hr2 : Room 2 _ := hr
    refine ⟨_, pss_cons (ps_set (i := 4) scStp.nd rfl (.inl rfl) (pe_lst pa_nil))
      (pss_cons (ps_for PassesOwn.never rfl (pi_range1 (by rfl) T.range (pa_cons (pv 1) pa_nil)) (pg_name (i := 5) scStp.nd rfl (.inl rfl))
        (pss_cons (ps_set (i := 6) scStp.nd rfl (.inl rfl) (pe_lst pa_nil))
        (pss_cons (ps_for PassesOwn.never rfl (pi_range1 (by rfl) T.range (pa_cons (pv 1) pa_nil)) (pg_name (i := 7) scStp.nd rfl (.inl rfl))
          (pss_cons (ps_set (i := 8) scStp.nd rfl (.inl rfl) (pe_call cEn.G hr2 rfl cEn.m cEn.kp cEn.b .nil pass0 (pa_cons (pv 0) pa_nil)))
          (C8.pss_cut (ps_if (PW.pt (pw_or (PW.pt (pw_and (pt_cmpR op_eq (pv 2) pe_int (nomark _)) (pw_and1 (pt_cmpR op_le (pv 7) (pv 5) (nomark _))))) (pw_or (PW.pt (pw_and (pt_cmpR op_eq (pv 2) pe_int (nomark _)) (pw_and1 (pt_cmpR op_lt (pv 7) (pv 5) (nomark _))))) (pw_or1 (PW.pt (pw_and (pt_cmpR op_eq (pv 2) pe_int (nomark _)) (pw_and1 (pt_cmpR op_ne (pe_op op_fdiv (pv 7) pe_int) (pe_op op_fdiv (pv 5) pe_int) (nomark _)))))))))
            (pss_one (ps_set (i := 8) scStp.nd rfl (.inl rfl) pe_int))
            pss_nil)
          (C8.pss_cut (ps_if (pt_cmpR op_eq (pv 2) pe_int (nomark _))
            (pss_one (ps_set (i := 8) scStp.nd rfl (.inl rfl) (pe_callTy call_int1 (by rfl) T.int (by decide +kernel) (pa_cons (pe_cmpR op_eq (pv 7) (pe_op op_mod (pe_callTy call_int1 (by rfl) T.int (by decide +kernel) (pa_cons (pe_op op_sub (pe_op op_add (pv 5) pe_int) (pv 3)) pa_nil)) (pv 1)) (nomark _)) pa_nil))))
            pss_nil)
          (C8.pss_cut (ps_if (PW.pt (pw_or (PW.pt (pw_and (pt_cmpR op_eq (pv 2) pe_int (nomark _)) (pw_and1 (pt_cmpR op_le (pv 7) (pv 5) (nomark _))))) (pw_or1 (PW.pt (pw_and (pt_cmpR op_eq (pv 2) pe_int (nomark _)) (pw_and1 (pt_cmpR op_lt (pe_op op_add (pv 5) pe_int) (pv 1) (nomark _))))))))
            (pss_one (ps_set (i := 8) scStp.nd rfl (.inl rfl) (pe_callTy call_int1 (by rfl) T.int (by decide +kernel) (pa_cons (pe_cmpR op_eq (pv 7) (pe_op op_add (pv 5) (pe_callTy call_int1 (by rfl) T.int (by decide +kernel) (pa_cons (pe_cmpR op_eq (pv 2) pe_int (nomark _)) pa_nil))) (nomark _)) pa_nil))))
            pss_nil)
          (pss_one (ps_expr (pe_bm PySem.F.plainAttrs_list PySem.F.slot_list_append PySem.F.type_list_append mt_append (pv 6) (pa_cons (pv 8) pa_nil)))))))))
        (pss_one (ps_expr (pe_bm PySem.F.plainAttrs_list PySem.F.slot_list_append PySem.F.type_list_append mt_append (pv 4) (pa_cons (pv 6) pa_nil)))))))
      (pss_one (ps_ret (pv 4)))), ?_⟩
    refine ⟨(by show 0 ≤ sizeLine; decide), fun D nD => ?_⟩
    have Da : D ≠ a := (hF.ne_new nD).1
    have Dc : D ≠ cl := (hF.ne_new nD).2
    have st : ∀ (G G' : Hp) (y : V), (∃ b, y = .ref b ∧ b ≠ D ∧ b ≠ a ∧ H b = none ∧ IntM 10 G b n) → Fr (And1 (K1 a) D) G G' → ∃ b, y = .ref b ∧ b ≠ D ∧ b ≠ a ∧ H b = none ∧ IntM 10 G' b n := fun G G' y h f => by
      obtain ⟨b, e, n1, n2, nb, i⟩ := h
      exact ⟨b, e, n1, n2, nb, i.fr f fun z => z.elim n2 n1⟩
    refine ⟨_, rfl, n, rfl, by omega, by omega, for_range (n := n) (fun i σ G => ∃ o5 o6 o7 o8, σ = [some (.ref a), some (.int (n : Int)), some (.int sp), some (.int (x : Int)), some (.ref D), o5, o6, o7, o8] ∧ FeedAt G a cl ∧ Ls (K1 a) H D i (fun G y => ∃ b, y = .ref b ∧ b ≠ D ∧ b ≠ a ∧ H b = none ∧ IntM 10 G b n) G)
      ⟨none, none, none, none, rfl, hF.other Da Dc, ls0 nD⟩ ?_ ?_⟩
    · rintro i σ G hi ⟨o5, o6, o7, o8, rfl, fe, ls⟩
      refine ⟨(by show 0 ≤ sizeLine; decide), fun L nL => ?_⟩
      have La : L ≠ a := (fe.ne_new nL).1
      have Lc : L ≠ cl := (fe.ne_new nL).2
      have LD : L ≠ D := fun z => by obtain ⟨acc, h, _⟩ := ls.xs; rw [← z, nL] at h; cases h
      refine ⟨_, rfl, n, rfl, by omega, by omega, for_range (n := n) (fun j σ G2 => ∃ o7 o8, σ = [some (.ref a), some (.int (n : Int)), some (.int sp), some (.int (x : Int)), some (.ref D), some (.int (0 + (i : Int))), some (.ref L), o7, o8] ∧ FeedAt G2 a cl ∧ Ls (K1 a) G L j (fun _ y => IntV 10 y) G2)
        ⟨o7, o8, rfl, fe.other La Lc, ls0 nL⟩ ?_ ?_⟩
      · rintro j σ G2 hj ⟨o7, o8, rfl, fe2, ls2⟩
        refine ⟨_, rfl, a, cl, rfl, fe2, fun z G3 z0 z1 f3 b3 => ?_⟩
        have g3 : Fr (K1 a) G2 G3 := Fr.but b3 fe2 f3
        have bz : Bt 10 z := bt10 (by omega)
        refine ⟨fun σ' H' => ∃ z : Int, σ' = [some (.ref a), some (.int (n : Int)), some (.int sp), some (.int (x : Int)), some (.ref D), some (.int (0 + (i : Int))), some (.ref L), some (.int (0 + (j : Int))), some (.int z)] ∧ H' = G3 ∧ Bt 10 z, ?_, ?_⟩
        · repeat' first
            | exact ⟨z, rfl, rfl, bz⟩
            | exact ⟨0, rfl, rfl, bt10 (by decide)⟩
            | refine ⟨_, rfl, rfl, _, rfl, ite2 (fun _ => ?_) (fun _ => ?_)⟩
            | refine ⟨_, rfl, _, rfl, _, _, rfl, rfl, _, rfl, ite2 (fun _ => ?_) (fun _ => ?_)⟩
            | refine ⟨_, rfl, _, _, rfl, rfl, ⟨by decide, by decide⟩, _, rfl, _, _, rfl, rfl, ⟨by decide, by decide⟩, rfl, _, rfl, ite2 (fun _ => ?_) (fun _ => ?_)⟩
        rintro σ3 G4 ⟨z, rfl, rfl, bz⟩
        refine ⟨fun σ' H' => ∃ z : Int, σ' = [some (.ref a), some (.int (n : Int)), some (.int sp), some (.int (x : Int)), some (.ref D), some (.int (0 + (i : Int))), some (.ref L), some (.int (0 + (j : Int))), some (.int z)] ∧ H' = G4 ∧ Bt 10 z, ?_, ?_⟩
        · refine ⟨_, rfl, rfl, _, rfl, ite2 (fun _ => ?_) (fun _ => ⟨z, rfl, rfl, bz⟩)⟩
          refine ⟨_, rfl, _, rfl, _, _, rfl, rfl, _, rfl, _, _, rfl, rfl, .inl ⟨_, rfl, _, rfl, _, _, rfl, rfl, by omega, rfl, .inr ⟨_, rfl, _, rfl, rfl, bit10 _⟩⟩⟩
        rintro σ3 G5 ⟨z, rfl, rfl, bz⟩
        refine ⟨fun σ' H' => ∃ z : Int, σ' = [some (.ref a), some (.int (n : Int)), some (.int sp), some (.int (x : Int)), some (.ref D), some (.int (0 + (i : Int))), some (.ref L), some (.int (0 + (j : Int))), some (.int z)] ∧ H' = G5 ∧ Bt 10 z, ?_, ?_⟩
        · repeat' first
            | exact ⟨z, rfl, rfl, bz⟩
            | refine ⟨_, rfl, rfl, _, rfl, ite2 (fun _ => ?_) (fun _ => ?_)⟩
            | refine ⟨_, rfl, _, rfl, _, _, rfl, rfl, _, rfl, ite2 (fun _ => ?_) (fun _ => ?_)⟩
            | refine ⟨_, rfl, _, _, rfl, rfl, _, rfl, _, _, rfl, rfl, _, rfl, ite2 (fun _ => ?_) (fun _ => ?_)⟩
            | exact ⟨_, rfl, _, rfl, _, rfl, rfl, .inr ⟨_, rfl, _, _, rfl, rfl, rfl, .inr ⟨_, rfl, _, rfl, rfl, bit10 _⟩⟩⟩
        rintro σ3 G6 ⟨z, rfl, rfl, bz⟩
        have ff : Fr (K1 a) G2 G6 := g3
        obtain ⟨acc, a1, a2, a3⟩ := ls2.step (x := .int z) nL (fun e => La e) (fun _ _ _ h _ => h) ff ⟨z, rfl, bz⟩
        refine ⟨_, rfl, .inl ⟨rfl, _, SqL.of a1⟩, _, rfl, L, acc, _, rfl, rfl, a1, by rw [a2]; exact small1000 (by omega), ?_⟩
        exact ⟨_, _, rfl, f3.other La Lc, a3⟩
      · rintro σ G2 ⟨o7, o8, rfl, fe2, ls2⟩
        have iL : IntM 10 G2 L n := ls2.xs
        have nLH : H L = none := ls.f.k.free nL
        obtain ⟨acc, a1, a2, a3⟩ := ls.step (x := .ref L) nD (fun e => Da e) st ls2.f ⟨L, rfl, LD, La, nLH, iL⟩
        refine ⟨_, rfl, .inl ⟨rfl, _, SqL.of a1⟩, _, rfl, D, acc, _, rfl, rfl, a1, by rw [a2]; exact small1000 (by omega), ?_⟩
        exact ⟨_, _, _, _, rfl, fe2.other Da Dc, a3⟩
    · rintro σ G ⟨o5, o6, o7, o8, rfl, fe, ls⟩
      obtain ⟨acc, hD, l, e⟩ := ls.xs
      refine ⟨_, rfl, kk D G ls.f fe ⟨D, acc, rfl, ⟨nD, by rw [hD]; intro z; cases z⟩, hD, l, fun y hy => ?_⟩⟩
      obtain ⟨b, rfl, _, _, nb, i⟩ := e y hy
      exact ⟨b, rfl, ⟨nb, i.there⟩, i⟩
end
end RX

set_option Elab.async false
set_option maxRecDepth 100000
namespace RX
open PySem L2 LX VA VM VN
open RQ (Hg Bt)
abbrev sBottoms : Stmt := topS 48
theorem scBo : FnScope ["tape", "letters", "size", "kind", "bottoms", "place"] ["tape", "letters", "size"] (defScope sBottoms) := ⟨rfl, rfl, rfl, by decide +kernel, rfl, by decide +kernel, by decide +kernel⟩
theorem bot1 : BotV (.int 1) := ⟨1, rfl, by decide, show (1 : Int).natAbs < 2 ^ 70 by decide⟩
theorem botS {v : Int} (h : v ≠ 0) (k : v.natAbs < 1000) : BotV (.int v) := ⟨v, rfl, h, show v.natAbs < 2 ^ 70 by omega⟩
theorem atb {y : Int} (h0 : 0 ≤ y) (h1 : y < 5) : ∃ v : V, atI [V.int 1, V.int 2, V.int 3, V.int 5, V.int 1] y = some v ∧ BotV v := by
  have : y = 0 ∨ y = 1 ∨ y = 2 ∨ y = 3 ∨ y = 4 := by omega
  rcases this with rfl | rfl | rfl | rfl | rfl <;> exact ⟨_, rfl, botS (by decide) (by decide)⟩
theorem atg {y g : Int} (h0 : 0 ≤ y) (h1 : y < 2) (g0 : BotV (.int g)) : ∃ v : V, atI [V.int 1, V.int g] y = some v ∧ BotV v := by
  have : y = 0 ∨ y = 1 := by omega
  rcases this with rfl | rfl
  · exact ⟨_, rfl, bot1⟩
  · exact ⟨_, rfl, g0⟩
section
variable {P : Program} {w : World} {K : PySem.W.Frag} {mg : Str → Option Value} {base : Heap}
theorem ok_bo {f fN fG : Addr} {fd dN dG : FuncData} (F : Fun K "_law_bottoms" "_law_bottoms" sBottoms f fd) (T : TxtL mg) (cNx : CalN P w K mg base "_law_next" 1 ["tape", "limit"] spDraw fN dN) (cGr : CalN P w K mg base "_law_great" 2 ["tape"] spGrt fG dG) : FnOk P w K mg base CX0 3 f fd ["tape", "letters", "size"] spBo := by
  refine F.ok scBo (fun vs H Q E h => ?_) (fun cdv A outer s H vs Q E hr h => ?_)
  · obtain ⟨a, cl, k, n, rfl, _⟩ := h
    rfl
  · obtain ⟨a, cl, k, n, rfl, hF, hk, hn, kk⟩ := h
    have hr2 : Room 2 _ := hr
    have hr1 : Room 1 _ := hr.mono (by decide)
    refine ⟨_, pss_cons (ps_set (i := 3) scBo.nd rfl (.inl rfl) (pe_call cNx.G hr1 rfl cNx.m cNx.kp cNx.b .nil pass0 (pa_cons (pv 0) (pa_cons pe_int pa_nil))))
      (pss_cons (ps_setLc (i := 4) (own := [("place", 5)]) (g := gName 5) (tt := tYes) rfl scBo.nd rfl rfl (sw_true rfl rfl rfl (by decide +kernel)) (pi_range1 (by rfl) T.range (pa_cons (pe_op op_add (pv 1) pe_int) pa_nil)) (blkOk_by (N := ["tape", "letters", "size", "kind", "bottoms", "place"]) (sc := (defScope sBottoms)) (by decide +kernel)) (fun _ _ _ _ _ => (pg_name (i := 5) scBo.nd rfl (.inl rfl))) (fun _ _ _ _ _ => pts_nil) (fun _ _ _ _ _ => pe_int))
      (C8.pss_cut (ps_if (pt_cmpR op_eq (pv 3) pe_int (nomark _))
        (pss_one (ps_setLc (i := 4) (own := [("place", 5)]) (g := gName 5) (tt := tYes) rfl scBo.nd rfl rfl (sw_true rfl rfl rfl (by decide +kernel)) (pi_range1 (by rfl) T.range (pa_cons (pe_op op_add (pv 1) pe_int) pa_nil)) (blkOk_by (N := ["tape", "letters", "size", "kind", "bottoms", "place"]) (sc := (defScope sBottoms)) (by decide +kernel)) (fun _ _ _ _ _ => (pg_name (i := 5) scBo.nd rfl (.inl rfl))) (fun _ _ _ _ _ => pts_nil) (fun _ _ _ _ _ => (pe_ix (show IxR _ (rIxL K) from ix_list) (pe_lst (pa_cons pe_int (pa_cons pe_int (pa_cons pe_int (pa_cons pe_int (pa_cons pe_int pa_nil)))))) (pe_call cNx.G hr1 rfl cNx.m cNx.kp cNx.b .nil pass0 (pa_cons (pv 0) (pa_cons pe_int pa_nil))) (fun _ _ => rfl)))))
        pss_nil)
      (C8.pss_cut (ps_if (PW.pt (pw_and (pt_cmpR op_eq (pv 3) pe_int (nomark _)) (pw_and (pt_cmpR op_lt (pv 1) pe_int (nomark _)) (pw_and1 (pt_cmpR op_lt (pv 2) pe_int (nomark _))))))
        (pss_one (ps_setLc (i := 4) (own := [("place", 5)]) (g := gName 5) (tt := tYes) rfl scBo.nd rfl rfl (sw_true rfl rfl rfl (by decide +kernel)) (pi_range1 (by rfl) T.range (pa_cons (pe_op op_add (pv 1) pe_int) pa_nil)) (blkOk_by (N := ["tape", "letters", "size", "kind", "bottoms", "place"]) (sc := (defScope sBottoms)) (by decide +kernel)) (fun _ _ _ _ _ => (pg_name (i := 5) scBo.nd rfl (.inl rfl))) (fun _ _ _ _ _ => pts_nil) (fun _ _ _ _ _ => (pe_ix (show IxR _ (rIxL K) from ix_list) (pe_lst (pa_cons pe_int (pa_cons (pe_call cGr.G hr2 rfl cGr.m cGr.kp cGr.b .nil pass0 (pa_cons (pv 0) pa_nil)) pa_nil))) (pe_call cNx.G hr1 rfl cNx.m cNx.kp cNx.b .nil pass0 (pa_cons (pv 0) (pa_cons pe_int pa_nil))) (fun _ _ => rfl)))))
        pss_nil)
      (pss_one (ps_ret (pv 4)))))), ?_⟩
    refine ⟨_, rfl, a, cl, 5, rfl, hF, by decide, by decide, fun kd H1 k0 k1 f1 b1 => ?_⟩
    have g1 : Fr (K1 a) H H1 := Fr.but b1 hF f1
    refine ⟨_, rfl, _, _, rfl, rfl, k + 2, rfl, by omega, by omega, fun D nD => ?_⟩
    refine lc_it (walk_range (lo := 0) (n := k + 2)) (fun i G => Ls (K1 a) H1 D i (fun _ y => BotV y) G ∧ FeedAt G a cl) ⟨ls0 nD, f1.other (f1.ne_new nD).1 (f1.ne_new nD).2⟩ (fun _ _ _ _ => trivial) ?_ ?_
    · rintro i y G5 G6 hi ⟨b, fb⟩ ⟨rfl, rfl⟩
      refine ⟨rfl, ?_⟩
      obtain ⟨acc, a1, a2, a3⟩ := b.step (x := .int 1) nD (fun z => (f1.ne_new nD).1 z) (fun _ _ _ h _ => h) Fr.refl bot1
      exact ⟨acc, a1, by rw [a2]; exact small1000 (by omega), a3, fb.other (f1.ne_new nD).1 (f1.ne_new nD).2⟩
    rintro G2 ⟨b2, f2⟩
    have new : ∀ {H1 G : Hp} {D : Addr}, Fr (K1 a) H H1 → H1 D = none → Ls (K1 a) H1 D (k + 2) (fun _ y => BotV y) G → New H G D ∧ BotM G D (k + 2) := fun g n b => by
      obtain ⟨xs, h, l, e⟩ := b.xs
      exact ⟨⟨g.k.free n, by rw [h]; intro z; cases z⟩, xs, h, l, e⟩
    obtain ⟨nw2, bm2⟩ := new g1 nD b2
    refine ⟨fun σ' H' => ∃ D, σ' = [some (.ref a), some (.int (k : Int)), some (.int (n : Int)), some (.int kd), some (.ref D), none] ∧ FeedAt H' a cl ∧ Fr (K1 a) H H' ∧ New H H' D ∧ BotM H' D (k + 2), ?_, ?_⟩
    · refine ⟨_, rfl, rfl, _, rfl, ite2 (fun _ => ?_) (fun _ => ⟨D, rfl, f2, g1.trans b2.f, nw2, bm2⟩)⟩
      refine ⟨_, rfl, _, _, rfl, rfl, k + 2, rfl, by omega, by omega, fun D3 nD3 => ?_⟩
      have g12 := g1.trans b2.f
      refine lc_it (walk_range (lo := 0) (n := k + 2)) (fun i G => Ls (K1 a) G2 D3 i (fun _ y => BotV y) G ∧ FeedAt G a cl) ⟨ls0 nD3, f2.other (f2.ne_new nD3).1 (f2.ne_new nD3).2⟩ (fun _ _ _ _ => trivial) ?_ ?_
      · rintro i y G5 G6 hi ⟨b, fb⟩ ⟨rfl, rfl⟩
        refine ⟨rfl, (by show 5 ≤ sizeLine; decide), fun l nl => ?_⟩
        have s6 : Same G6 (upd G6 l (.lst [.int 1, .int 2, .int 3, .int 5, .int 1])) := Same.upd nl
        have hl : (upd G6 l (.lst [.int 1, .int 2, .int 3, .int 5, .int 1])) l = some (.lst [.int 1, .int 2, .int 3, .int 5, .int 1]) := upd_same
        generalize upd G6 l (.lst [.int 1, .int 2, .int 3, .int 5, .int 1]) = G7 at *
        refine ⟨_, rfl, a, cl, 5, rfl, fb.same s6, by decide, by decide, fun y G8 y0 y1 f8 b8 => ?_⟩
        have g8 := Fr.but b8 (fb.same s6) f8
        obtain ⟨v, hv, bv⟩ := atb y0 y1
        refine ⟨l, _, _, _, rfl, rfl, SqL.of (g8.get hl fun z => (fb.ne_new nl).1 z), hv, ?_⟩
        obtain ⟨acc, a1, a2, a3⟩ := b.step (x := v) nD3 (fun z => (f2.ne_new nD3).1 z) (fun _ _ _ h _ => h) ((Same.fr s6).trans g8) bv
        exact ⟨acc, a1, by rw [a2]; exact small1000 (by omega), a3, f8.other (f2.ne_new nD3).1 (f2.ne_new nD3).2⟩
      · rintro G3 ⟨b3, f3⟩
        obtain ⟨nw3, bm3⟩ := new g12 nD3 b3
        exact ⟨D3, rfl, f3, g12.trans b3.f, nw3, bm3⟩
    rintro σ' G3 ⟨D3, rfl, f3, g3, nw3, bm3⟩
    refine ⟨fun σ' H' => ∃ D, σ' = [some (.ref a), some (.int (k : Int)), some (.int (n : Int)), some (.int kd), some (.ref D), none] ∧ FeedAt H' a cl ∧ Fr (K1 a) H H' ∧ New H H' D ∧ BotM H' D (k + 2), ?_, ?_⟩
    · refine ⟨_, rfl, rfl, _, rfl, ite2 (fun _ => ?_) (fun _ => ⟨D3, rfl, f3, g3, nw3, bm3⟩)⟩
      refine ⟨_, rfl, _, _, rfl, rfl, _, rfl, ite2 (fun _ => ?_) (fun _ => ⟨D3, rfl, f3, g3, nw3, bm3⟩)⟩
      refine ⟨_, rfl, _, _, rfl, rfl, _, rfl, ite2 (fun _ => ?_) (fun _ => ⟨D3, rfl, f3, g3, nw3, bm3⟩)⟩
      refine ⟨_, rfl, _, _, rfl, rfl, k + 2, rfl, by omega, by omega, fun D4 nD4 => ?_⟩
      refine lc_it (walk_range (lo := 0) (n := k + 2)) (fun i G => Ls (K1 a) G3 D4 i (fun _ y => BotV y) G ∧ FeedAt G a cl) ⟨ls0 nD4, f3.other (f3.ne_new nD4).1 (f3.ne_new nD4).2⟩ (fun _ _ _ _ => trivial) ?_ ?_
      · rintro i y G5 G6 hi ⟨b, fb⟩ ⟨rfl, rfl⟩
        refine ⟨rfl, _, rfl, a, cl, rfl, fb, fun g G7 g0 bg f7 b7 => ?_⟩
        have g7 := Fr.but b7 fb f7
        refine ⟨(by show 2 ≤ sizeLine; decide), fun l nl => ?_⟩
        have s6 : Same G7 (upd G7 l (.lst [.int 1, .int g])) := Same.upd nl
        have hl : (upd G7 l (.lst [.int 1, .int g])) l = some (.lst [.int 1, .int g]) := upd_same
        generalize upd G7 l (.lst [.int 1, .int g]) = G8 at *
        refine ⟨_, rfl, a, cl, 2, rfl, f7.same s6, by decide, by decide, fun y G9 y0 y1 f9 b9 => ?_⟩
        have g9 := Fr.but b9 (f7.same s6) f9
        obtain ⟨v, hv, bv⟩ := atg y0 y1 (⟨g, rfl, by omega, bg⟩ : BotV (.int g))
        refine ⟨l, _, _, _, rfl, rfl, SqL.of (g9.get hl fun z => (f7.ne_new nl).1 z), hv, ?_⟩
        obtain ⟨acc, a1, a2, a3⟩ := b.step (x := v) nD4 (fun z => (f3.ne_new nD4).1 z) (fun _ _ _ h _ => h) ((g7.trans (Same.fr s6)).trans g9) bv
        exact ⟨acc, a1, by rw [a2]; exact small1000 (by omega), a3, f9.other (f3.ne_new nD4).1 (f3.ne_new nD4).2⟩
      · rintro G4 ⟨b4, f4⟩
        obtain ⟨nw4, bm4⟩ := new g3 nD4 b4
        exact ⟨D4, rfl, f4, g3.trans b4.f, nw4, bm4⟩
    rintro σ' G4 ⟨D4, rfl, f4, g4, nw4, bm4⟩
    exact ⟨_, rfl, kk D4 G4 g4 f4 nw4 bm4⟩
end
end RX

set_option Elab.async false
set_option maxRecDepth 100000
namespace RX
open PySem L2 LX VA VM VN
open RQ (Hg Bt)
abbrev sPlain : Stmt := topS 49
theorem scPn : FnScope ["tape", "wide", "limits", "letters", "size", "shape", "steps", "start", "end", "bottoms", "letter", "place"] ["tape", "wide", "limits"] (defScope sPlain) := ⟨rfl, rfl, rfl, by decide +kernel, rfl, by decide +kernel, by decide +kernel⟩
def StsM (B : Nat) (H : Hp) (P : Addr → Prop) (pt : Addr) (k n : Nat) : Prop := ∃ ts, H pt = some (.lst ts) ∧ P pt ∧ ts.length = k ∧ ∀ x ∈ ts, StpM B H P n x
theorem StsM.fr {B : Nat} {W P P' : Addr → Prop} {H H' : Hp} {pt : Addr} {k n : Nat} (h : StsM B H P pt k n) (f : Fr W H H') (w : ∀ b, P b → ¬ W b) (p : ∀ b, P b → P' b) : StsM B H' P' pt k n := by
  obtain ⟨ts, h1, h2, h3, h4⟩ := h
  exact ⟨ts, f.get h1 (w _ h2), p _ h2, h3, fun x hx => (h4 x hx).fr f w p⟩
/-- the bottoms of a machine of n states -/
def BotN (n : Nat) (H : Hp) (a : Addr) (k : Nat) : Prop := ∃ xs, H a = some (.lst xs) ∧ xs.length = k ∧ ∀ x ∈ xs, BotV x ∧ (4 ≤ n → x = .int 1)
theorem BotN.fr {n : Nat} {W : Addr → Prop} {H H' : Hp} {a : Addr} {k : Nat} (h : BotN n H a k) (f : Fr W H H') (w : ¬ W a) : BotN n H' a k := let ⟨xs, h, l, e⟩ := h; ⟨xs, f.get h w, l, e⟩
theorem BotM.of {n : Nat} {H : Hp} {a : Addr} {k : Nat} (h : BotM H a k) (l : n < 4) : BotN n H a k := let ⟨xs, h, l2, e⟩ := h; ⟨xs, h, l2, fun x hx => ⟨e x hx, fun z => absurd z (by omega)⟩⟩
theorem BotM.fr {W : Addr → Prop} {H H' : Hp} {a : Addr} {k : Nat} (h : BotM H a k) (f : Fr W H H') (w : ¬ W a) : BotM H' a k := let ⟨xs, h, l, e⟩ := h; ⟨xs, f.get h w, l, e⟩
/-- the law's plain machine: ints, and bottoms -/
structure PlM (B : Nat) (H : Hp) (P : Addr → Prop) (q : Addr) (k n : Nat) : Prop where
  ex : ∃ ps pt pe pb, H q = some (.tup [.int (k : Int), .ref ps, .ref pt, .ref pe, .ref pb]) ∧ P ps ∧ P pe ∧ P pb ∧ IntM B H ps n ∧ StsM 10 H P pt k n ∧ IntM B H pe n ∧ BotN n H pb (k + 2)
  al : Alc P H
theorem PlM.fr {B : Nat} {W P : Addr → Prop} {H H' : Hp} {q : Addr} {k n : Nat} (h : PlM B H P q k n) (f : Fr W H H') (w : ∀ b, P b → ¬ W b) : PlM B H' P q k n := by
  obtain ⟨ps, pt, pe, pb, h1, h2, h3, h4, h5, h6, h7, h8⟩ := h.ex
  exact ⟨⟨ps, pt, pe, pb, f.t _ _ h1, h2, h3, h4, h5.fr f (w _ h2), h6.fr f w fun _ z => z, h7.fr f (w _ h3), h8.fr f (w _ h4)⟩, h.al.keep f.k⟩
theorem IntM.up {A B : Nat} {H : Hp} {a : Addr} {n : Nat} (h : IntM A H a n) (l : A ≤ B) : IntM B H a n := by
  obtain ⟨xs, h, ln, e⟩ := h
  refine ⟨xs, h, ln, fun x hx => ?_⟩
  obtain ⟨z, e, b⟩ := e x hx
  exact ⟨z, e, b.up l⟩
theorem PlM.up {A B : Nat} {H : Hp} {P : Addr → Prop} {q : Addr} {k n : Nat} (h : PlM A H P q k n) (l : A ≤ B) : PlM B H P q k n := by
  obtain ⟨ps, pt, pe, pb, h1, h2, h3, h4, h5, h6, h7, h8⟩ := h.ex
  exact ⟨⟨ps, pt, pe, pb, h1, h2, h3, h4, h5.up l, h6, h7.up l, h8⟩, h.al⟩
theorem new_al {H G : Hp} : Alc (New H G) G := fun _ z => z.2
theorem at8 {y : Int} (h0 : 0 ≤ y) (h1 : y < 8) : ∃ v : Nat, atI [V.int 1, V.int 2, V.int 2, V.int 2, V.int 3, V.int 2, V.int 1, V.int 4] y = some (.int (v : Int)) ∧ 1 ≤ v ∧ v ≤ 4 := by
  have : y = 0 ∨ y = 1 ∨ y = 2 ∨ y = 3 ∨ y = 4 ∨ y = 5 ∨ y = 6 ∨ y = 7 := by omega
  rcases this with rfl | rfl | rfl | rfl | rfl | rfl | rfl | rfl
  · exact ⟨1, rfl, by decide, by decide⟩
  · exact ⟨2, rfl, by decide, by decide⟩
  · exact ⟨2, rfl, by decide, by decide⟩
  · exact ⟨2, rfl, by decide, by decide⟩
  · exact ⟨3, rfl, by decide, by decide⟩
  · exact ⟨2, rfl, by decide, by decide⟩
  · exact ⟨1, rfl, by decide, by decide⟩
  · exact ⟨4, rfl, by decide, by decide⟩
def limV (ls : List Nat) : List V := ls.map fun x => V.int ((x : Nat) : Int)
/-- lm holds four limits -/
structure LimAt (H : Hp) (lm : Addr) (ls : List Nat) : Prop where
  h : H lm = some (.lst (limV ls))
  l : ls.length = 4
  b : ∀ x ∈ ls, x ≤ 5
def spPn : Sp := fun vs H Q _ => ∃ (a cl lm : Addr) (wide : Bool) (ls : List Nat), vs = [.ref a, .bl wide, .ref lm] ∧ FeedAt H a cl ∧ LimAt H lm ls ∧ ∀ (r : Addr) (k n : Nat) (H' : Hp), 1 ≤ k → k ≤ 4 → n ≤ 12 → (1 < k → n ≤ 5) → Fr (K1 a) H H' → FeedAt H' a cl → PlM 80 H' (New H H') r k n → Q (.ref r) H'
section
variable {P : Program} {w : World} {K : PySem.W.Frag} {mg : Str → Option Value} {base : Heap}
theorem ok_pn {f fN fG fE fS fB : Addr} {fd dN dG dE dS dB : FuncData} (F : Fun K "_law_plain" "_law_plain" sPlain f fd) (T : TxtL mg) (cNx : CalN P w K mg base "_law_next" 1 ["tape", "limit"] spDraw fN dN) (cGr : CalN P w K mg base "_law_great" 2 ["tape"] spGrt fG dG) (cEn : CalN P w K mg base "_law_entry" 2 ["tape"] spEn fE dE)
    (cStp : CalN P w K mg base "_law_step" 3 ["tape", "size", "shape", "letter"] spStp fS dS) (cBo : CalN P w K mg base "_law_bottoms" 3 ["tape", "letters", "size"] spBo fB dB) : FnOk P w K mg base CX0 4 f fd ["tape", "wide", "limits"] spPn := by
  refine F.ok scPn (fun vs H Q E h => ?_) (fun cdv A outer s H vs Q E hr h => ?_)
  · obtain ⟨a, cl, lm, wide, ls, rfl, _⟩ := h
    rfl
  · obtain ⟨a, cl, lm, wide, ls, rfl, hF, ⟨hlm, lls, bls⟩, kk⟩ := h
    have hr3 : Room 3 _ := hr
    have hr2 : Room 2 _ := hr.mono (by decide)
    have hr1 : Room 1 _ := hr.mono (by decide)
    have lma : lm ≠ a := fun z => by obtain ⟨_, _, _, _, _, g⟩ := hF; rw [z, g.hA] at hlm; cases hlm
    refine ⟨_, pss_cons (ps_set (i := 3) scPn.nd rfl (.inl rfl) (pe_ix ix_list (pe_lst (pa_cons pe_int (pa_cons pe_int (pa_cons pe_int (pa_cons pe_int (pa_cons pe_int (pa_cons pe_int (pa_cons pe_int (pa_cons pe_int pa_nil))))))))) (pe_call cNx.G hr1 rfl cNx.m cNx.kp cNx.b .nil pass0 (pa_cons (pv 0) (pa_cons pe_int pa_nil))) (fun _ _ => rfl)))
      (pss_cons (ps_set (i := 4) scPn.nd rfl (.inr rfl) (pe_call cNx.G hr1 rfl cNx.m cNx.kp cNx.b .nil pass0 (pa_cons (pv 0) (pa_cons (pe_op op_add (pe_ix ix_list (pv 2) (pe_op op_sub (pv 3) pe_int) (fun _ _ => rfl)) pe_int) pa_nil))))
      (pss_cons (ps_set (i := 5) scPn.nd rfl (.inr rfl) (pe_call cNx.G hr1 rfl cNx.m cNx.kp cNx.b .nil pass0 (pa_cons (pv 0) (pa_cons pe_int pa_nil))))
      (C8.pss_cut (ps_if (PW.pt (pw_and (pt_val (pv 1)) (pw_and1 (pt_cmpR op_eq (pe_call cNx.G hr1 rfl cNx.m cNx.kp cNx.b .nil pass0 (pa_cons (pv 0) (pa_cons pe_int pa_nil))) pe_int (nomark _)))))
        (pss_cons (ps_set (i := 3) scPn.nd rfl (.inl rfl) pe_int)
        (pss_cons (ps_set (i := 4) scPn.nd rfl (.inr rfl) (pe_op op_add pe_int (pe_call cNx.G hr1 rfl cNx.m cNx.kp cNx.b .nil pass0 (pa_cons (pv 0) (pa_cons pe_int pa_nil)))))
        (pss_one (ps_set (i := 5) scPn.nd rfl (.inr rfl) (pe_op op_add pe_int (pe_op op_mul pe_int (pe_call cNx.G hr1 rfl cNx.m cNx.kp cNx.b .nil pass0 (pa_cons (pv 0) (pa_cons pe_int pa_nil)))))))))
        pss_nil)
      (pss_cons (ps_setLc (i := 6) (own := [("letter", 10)]) (g := gName 10) (tt := tYes) rfl scPn.nd rfl rfl (sw_true rfl rfl rfl (by decide +kernel)) (pi_range1 (by rfl) T.range (pa_cons (pv 3) pa_nil)) (blkOk_by (N := ["tape", "wide", "limits", "letters", "size", "shape", "steps", "start", "end", "bottoms", "letter", "place"]) (sc := (defScope sPlain)) (by decide +kernel)) (fun _ _ _ _ _ => (pg_name (i := 10) scPn.nd rfl (.inl rfl))) (fun _ _ _ _ _ => pts_nil) (fun _ _ _ _ _ => (pe_call cStp.G hr3 rfl cStp.m cStp.kp cStp.b .nil pass0 (pa_cons (pv 0) (pa_cons (pv 4) (pa_cons (pv 5) (pa_cons (pv 10) pa_nil)))))))
      (pss_cons (ps_setLc (i := 7) (own := [("place", 11)]) (g := gName 11) (tt := tYes) rfl scPn.nd rfl rfl (sw_true rfl rfl rfl (by decide +kernel)) (pi_range1 (by rfl) T.range (pa_cons (pv 4) pa_nil)) (blkOk_by (N := ["tape", "wide", "limits", "letters", "size", "shape", "steps", "start", "end", "bottoms", "letter", "place"]) (sc := (defScope sPlain)) (by decide +kernel)) (fun _ _ _ _ _ => (pg_name (i := 11) scPn.nd rfl (.inl rfl))) (fun _ _ _ _ _ => pts_nil) (fun _ _ _ _ _ => (pe_call cEn.G hr2 rfl cEn.m cEn.kp cEn.b .nil pass0 (pa_cons (pv 0) pa_nil))))
      (pss_cons (ps_setLc (i := 8) (own := [("place", 11)]) (g := gName 11) (tt := tYes) rfl scPn.nd rfl rfl (sw_true rfl rfl rfl (by decide +kernel)) (pi_range1 (by rfl) T.range (pa_cons (pv 4) pa_nil)) (blkOk_by (N := ["tape", "wide", "limits", "letters", "size", "shape", "steps", "start", "end", "bottoms", "letter", "place"]) (sc := (defScope sPlain)) (by decide +kernel)) (fun _ _ _ _ _ => (pg_name (i := 11) scPn.nd rfl (.inl rfl))) (fun _ _ _ _ _ => pts_nil) (fun _ _ _ _ _ => (pe_call cEn.G hr2 rfl cEn.m cEn.kp cEn.b .nil pass0 (pa_cons (pv 0) pa_nil))))
      (C8.pss_cut (ps_if (PW.pt (pw_and (pt_cmpR op_gt (pv 4) pe_int (nomark _)) (pw_and1 (pt_cmpR op_gt (pe_call cNx.G hr1 rfl cNx.m cNx.kp cNx.b .nil pass0 (pa_cons (pv 0) (pa_cons pe_int pa_nil))) pe_int (nomark _)))))
        (pss_cons (ps_asg (pe_op op_add pe_int (pe_call cNx.G hr1 rfl cNx.m cNx.kp cNx.b .nil pass0 (pa_cons (pv 0) (pa_cons pe_int pa_nil)))) (pg_sub (pv 7) pe_int set_list))
        (pss_one (ps_asg pe_int (pg_sub (pv 8) (pe_op op_sub (pv 4) pe_int) set_list))))
        pss_nil)
      (pss_cons (ps_setLc (i := 9) (own := [("place", 11)]) (g := gName 11) (tt := tYes) rfl scPn.nd rfl rfl (sw_true rfl rfl rfl (by decide +kernel)) (pi_range1 (by rfl) T.range (pa_cons (pe_op op_add (pv 3) pe_int) pa_nil)) (blkOk_by (N := ["tape", "wide", "limits", "letters", "size", "shape", "steps", "start", "end", "bottoms", "letter", "place"]) (sc := (defScope sPlain)) (by decide +kernel)) (fun _ _ _ _ _ => (pg_name (i := 11) scPn.nd rfl (.inl rfl))) (fun _ _ _ _ _ => pts_nil) (fun _ _ _ _ _ => pe_int))
      (C8.pss_cut (ps_if (pt_cmpR op_lt (pv 4) pe_int (nomark _))
        (pss_one (ps_set (i := 9) scPn.nd rfl (.inl rfl) (pe_call cBo.G hr3 rfl cBo.m cBo.kp cBo.b .nil pass0 (pa_cons (pv 0) (pa_cons (pv 3) (pa_cons (pv 4) pa_nil))))))
        pss_nil)
      (C8.pss_cut (ps_if (PW.pt (pw_or (pt_cmpR op_eq (pv 4) pe_int (nomark _)) (pw_or1 (pt_cmpR op_eq (pv 4) pe_int (nomark _)))))
        (pss_one (ps_if (pt_cmpR op_eq (pe_call cNx.G hr1 rfl cNx.m cNx.kp cNx.b .nil pass0 (pa_cons (pv 0) (pa_cons pe_int pa_nil))) pe_int (nomark _))
          (pss_cons (ps_asg (pe_call cGr.G hr2 rfl cGr.m cGr.kp cGr.b .nil pass0 (pa_cons (pv 0) pa_nil)) (pg_sub (pv 7) (pe_op op_sub (pv 4) pe_int) set_list))
          (pss_one (ps_asg (pe_op op_sub pe_int (pe_call cGr.G hr2 rfl cGr.m cGr.kp cGr.b .nil pass0 (pa_cons (pv 0) pa_nil))) (pg_sub (pv 8) pe_int set_list))))
          pss_nil))
        pss_nil)
      (pss_one (ps_ret (pe_tup (pa_cons (pv 3) (pa_cons (pv 7) (pa_cons (pv 6) (pa_cons (pv 8) (pa_cons (pv 9) pa_nil)))))))))))))))))), ?_⟩
    refine ⟨(by show 8 ≤ sizeLine; decide), fun l nl => ?_⟩
    have s1 : Same H (upd H l (.lst [.int 1, .int 2, .int 2, .int 2, .int 3, .int 2, .int 1, .int 4])) := Same.upd nl
    have hl : (upd H l (.lst [.int 1, .int 2, .int 2, .int 2, .int 3, .int 2, .int 1, .int 4])) l = some (.lst [.int 1, .int 2, .int 2, .int 2, .int 3, .int 2, .int 1, .int 4]) := upd_same
    generalize upd H l (.lst [.int 1, .int 2, .int 2, .int 2, .int 3, .int 2, .int 1, .int 4]) = G1 at *
    refine ⟨_, rfl, a, cl, 8, rfl, hF.same s1, by decide, by decide, fun y G2 y0 y1 f2 b2 => ?_⟩
    have g2 := Fr.but b2 (hF.same s1) f2
    obtain ⟨k, hk, k1, k4⟩ := at8 y0 y1
    refine ⟨l, _, _, _, rfl, rfl, SqL.of (g2.get hl fun z => (hF.ne_new nl).1 z), hk, ?_⟩
    have f02 : Fr (K1 a) H G2 := (Same.fr s1).trans g2
    obtain ⟨lv, hlv, l4⟩ : ∃ v : Nat, atI (limV ls) ((k : Int) - 1) = some (.int (v : Int)) ∧ v ≤ 5 := by
      have hk1 : k - 1 < ls.length := by omega
      refine ⟨ls[k - 1], ?_, bls _ (List.getElem_mem _)⟩
      rw [show (k : Int) - 1 = ((k - 1 : Nat) : Int) by omega]
      exact at_of rfl (by unfold limV; rw [List.getElem?_map, List.getElem?_eq_getElem hk1]; rfl)
    refine ⟨_, rfl, _, rfl, _, rfl, _, _, rfl, rfl, lm, _, _, _, rfl, rfl, SqL.of (f02.get hlm lma), hlv, _, _, rfl, rfl, a, cl, _, rfl, f2, by omega, by omega, fun n G3 n0 n1 f3 b3 => ?_⟩
    have f03 := f02.trans (Fr.but b3 f2 f3)
    obtain ⟨n, rfl⟩ : ∃ n' : Nat, n = (n' : Int) := ⟨n.toNat, by omega⟩
    have n12 : n ≤ 12 := by omega
    refine ⟨_, rfl, a, cl, 6, rfl, f3, by decide, by decide, fun sp G4 _ _ f4 b4 => ?_⟩
    have f04 := f03.trans (Fr.but b4 f3 f4)
    refine ⟨fun σ' H' => ∃ (k n : Nat) (sp : Int), σ' = [some (.ref a), some (.bl wide), some (.ref lm), some (.int (k : Int)), some (.int (n : Int)), some (.int sp), none, none, none, none, none, none] ∧ 1 ≤ k ∧ k ≤ 4 ∧ n ≤ 12 ∧ (1 < k → n ≤ 5) ∧ Fr (K1 a) H H' ∧ FeedAt H' a cl, ?_, ?_⟩
    · refine ⟨_, rfl, wide, rfl, ?_⟩
      cases wide with
      | false => exact iteF ⟨k, n, sp, rfl, k1, k4, n12, fun _ => by omega, f04, f4⟩
      | true =>
        refine iteT ?_
        refine ⟨_, rfl, a, cl, 12, rfl, f4, by decide, by decide, fun y G5 y0 y1 f5 b5 => ?_⟩
        have f05 := f04.trans (Fr.but b5 f4 f5)
        refine ⟨rfl, _, rfl, ite2 (fun _ => ?_) (fun _ => ⟨k, n, sp, rfl, k1, k4, n12, fun _ => by omega, f05, f5⟩)⟩
        refine ⟨_, rfl, a, cl, 6, rfl, f5, by decide, by decide, fun y2 G6 z0 z1 f6 b6 => ⟨_, _, rfl, rfl, ?_⟩⟩
        have f06 := f05.trans (Fr.but b6 f5 f6)
        refine ⟨_, rfl, a, cl, 2, rfl, f6, by decide, by decide, fun y3 G7 _ _ f7 b7 => ⟨_, _, rfl, rfl, .inl ⟨by decide, by decide⟩, _, _, rfl, rfl, ?_⟩⟩
        have f07 := f06.trans (Fr.but b7 f6 f7)
        obtain ⟨y2, rfl⟩ : ∃ y' : Nat, y2 = (y' : Int) := ⟨y2.toNat, by omega⟩
        refine ⟨1, 7 + y2, _, rfl, by decide, by decide, by omega, fun z => absurd z (by decide), f07, f7⟩
    rintro σ' G5 ⟨k, n, sp, rfl, k1, k4, n12, kn, f04, f4⟩
    refine ⟨_, rfl, k, rfl, by omega, by omega, fun D nD => ?_⟩
    have Da := (f4.ne_new nD).1
    have Dc := (f4.ne_new nD).2
    have st : ∀ (G G' : Hp) (y : V), StpM 10 G (fun b => New H G b ∧ b ≠ D) n y → Fr (And1 (K1 a) D) G G' → StpM 10 G' (fun b => New H G' b ∧ b ≠ D) n y := fun G G' y h f => h.fr f (fun b z y => y.elim (fun e => hF.there (by rw [← show b = a from e]; exact z.1.1)) z.2) fun b z => ⟨z.1.up2 f, z.2⟩
    refine lc_it (walk_range (lo := 0) (n := k)) (fun i G => Ls (K1 a) G5 D i (fun G y => StpM 10 G (fun b => New H G b ∧ b ≠ D) n y) G ∧ FeedAt G a cl) ⟨ls0 nD, f4.other Da Dc⟩ (fun _ _ _ _ => trivial) ?_ ?_
    · rintro i y G6 G7 hi ⟨bl, fb⟩ ⟨rfl, rfl⟩
      refine ⟨rfl, _, rfl, _, rfl, _, rfl, _, rfl, a, cl, n, _, sp, rfl, fb, by omega, fun r G8 g8 f8 hS => ?_⟩
      have hS' : StpM 10 G8 (fun b => New H G8 b ∧ b ≠ D) n (.ref r) := hS.fr (W := Emp) Fr.refl (fun _ _ => id) fun b z => ⟨z.up (f04.trans bl.f), fun e => by
        obtain ⟨acc, h, _⟩ := bl.xs
        have := z.1
        rw [e, h] at this
        cases this⟩
      obtain ⟨acc, a1, a2, a3⟩ := bl.step nD (fun z => Da z) st g8 hS'
      exact ⟨acc, a1, by rw [a2]; exact small1000 (by omega), a3, f8.other Da Dc⟩
    rintro G6 ⟨b6, f6⟩
    have f06 := f04.trans b6.f
    have hT : StsM 10 G6 (New H G6) D k n := by
      obtain ⟨ts, h1, h2, h3⟩ := b6.xs
      exact ⟨ts, h1, ⟨f04.k.free nD, by rw [h1]; intro z; cases z⟩, h2, fun x hx => (h3 x hx).fr (W := Emp) Fr.refl (fun _ _ => id) fun b z => z.1⟩
    have aP : ∀ b, New H G6 b → b ≠ a := fun b z e => hF.there (by rw [← e]; exact z.1)
    -- start
    refine ⟨_, rfl, n, rfl, by omega, by omega, fun D2 nD2 => ?_⟩
    have D2a := (f6.ne_new nD2).1
    have D2c := (f6.ne_new nD2).2
    refine lc_it (walk_range (lo := 0) (n := n)) (fun i G => Ls (K1 a) G6 D2 i (fun _ y => IntV 80 y) G ∧ FeedAt G a cl) ⟨ls0 nD2, f6.other D2a D2c⟩ (fun _ _ _ _ => trivial) ?_ ?_
    · rintro i y G7 G8 hi ⟨b, fb⟩ ⟨rfl, rfl⟩
      refine ⟨rfl, _, rfl, a, cl, rfl, fb, fun z G9 z0 z1 f9 b9 => ?_⟩
      obtain ⟨acc, a1, a2, a3⟩ := b.step (x := .int z) nD2 (fun z => D2a z) (fun _ _ _ h _ => h) (Fr.but b9 fb f9) ⟨z, rfl, bt80 (by omega)⟩
      exact ⟨acc, a1, by rw [a2]; exact small1000 (by omega), a3, f9.other D2a D2c⟩
    rintro G7 ⟨b7, f7⟩
    have i2 : IntM 80 G7 D2 n := b7.xs
    -- end
    refine ⟨_, rfl, n, rfl, by omega, by omega, fun D3 nD3 => ?_⟩
    have D3a := (f7.ne_new nD3).1
    have D3c := (f7.ne_new nD3).2
    have D32 : D3 ≠ D2 := fun z => i2.there (by rw [← z]; exact nD3)
    refine lc_it (walk_range (lo := 0) (n := n)) (fun i G => Ls (K1 a) G7 D3 i (fun _ y => IntV 80 y) G ∧ FeedAt G a cl) ⟨ls0 nD3, f7.other D3a D3c⟩ (fun _ _ _ _ => trivial) ?_ ?_
    · rintro i y G8 G9 hi ⟨b, fb⟩ ⟨rfl, rfl⟩
      refine ⟨rfl, _, rfl, a, cl, rfl, fb, fun z G10 z0 z1 f9 b9 => ?_⟩
      obtain ⟨acc, a1, a2, a3⟩ := b.step (x := .int z) nD3 (fun z => D3a z) (fun _ _ _ h _ => h) (Fr.but b9 fb f9) ⟨z, rfl, bt80 (by omega)⟩
      exact ⟨acc, a1, by rw [a2]; exact small1000 (by omega), a3, f9.other D3a D3c⟩
    rintro G8 ⟨b8, f8⟩
    have i3 : IntM 80 G8 D3 n := b8.xs
    have i2 : IntM 80 G8 D2 n := i2.fr b8.f fun z => D2a z
    -- what is written from here on
    have PW : ∀ b, New H G6 b → ¬ (b = a ∨ b = D2 ∨ b = D3) := fun b z y => by
      rcases y with y | y | y
      · exact aP b z y
      · exact z.2 (by rw [y]; exact nD2)
      · exact z.2 (by rw [y]; exact b7.f.k.free nD3)
    have new2 : H D2 = none := f06.k.free nD2
    have new3 : H D3 = none := f06.k.free (b7.f.k.free nD3)
    have base8 : Fr (K1 a) H G8 := (f06.trans b7.f).trans b8.f
    have f68 : Fr (fun b => b = a ∨ b = D2 ∨ b = D3) G6 G8 := (b7.f.trans b8.f).more fun _ z => .inl z
    have inv8 : FeedAt G8 a cl ∧ Fr (K1 a) H G8 ∧ Fr (fun b => b = a ∨ b = D2 ∨ b = D3) G6 G8 ∧ IntM 80 G8 D2 n ∧ IntM 80 G8 D3 n := ⟨f8, base8, f68, i2, i3⟩
    have up2 : ∀ (G : Hp) (xs : List V) (i : Nat) (z : Int), (FeedAt G a cl ∧ Fr (K1 a) H G ∧ Fr (fun b => b = a ∨ b = D2 ∨ b = D3) G6 G ∧ IntM 80 G D2 n ∧ IntM 80 G D3 n) → G D2 = some (.lst xs) → Bt 80 z → FeedAt (upd G D2 (.lst (xs.set i (.int z)))) a cl ∧ Fr (K1 a) H (upd G D2 (.lst (xs.set i (.int z)))) ∧ Fr (fun b => b = a ∨ b = D2 ∨ b = D3) G6 (upd G D2 (.lst (xs.set i (.int z)))) ∧ IntM 80 (upd G D2 (.lst (xs.set i (.int z)))) D2 n ∧ IntM 80 (upd G D2 (.lst (xs.set i (.int z)))) D3 n := fun G xs i z ⟨q1, q2, q3, q4, q5⟩ hx bz => by
      have fu : Fr (K1 D2) G (upd G D2 (.lst (xs.set i (.int z)))) := Fr.updL rfl hx
      exact ⟨q1.other D2a D2c, Fr.dropS (W := fun b => K1 a b ∨ b = D2) ((q2.more fun _ z => .inl z).trans (fu.more fun _ z => .inr z)) fun b z => z.imp id fun e => by rw [e]; exact new2, q3.trans (fu.more fun _ z => .inr (.inl z)), q4.set hx bz, q5.fr fu fun z => D32 z⟩
    have up3 : ∀ (G : Hp) (xs : List V) (i : Nat) (z : Int), (FeedAt G a cl ∧ Fr (K1 a) H G ∧ Fr (fun b => b = a ∨ b = D2 ∨ b = D3) G6 G ∧ IntM 80 G D2 n ∧ IntM 80 G D3 n) → G D3 = some (.lst xs) → Bt 80 z → FeedAt (upd G D3 (.lst (xs.set i (.int z)))) a cl ∧ Fr (K1 a) H (upd G D3 (.lst (xs.set i (.int z)))) ∧ Fr (fun b => b = a ∨ b = D2 ∨ b = D3) G6 (upd G D3 (.lst (xs.set i (.int z)))) ∧ IntM 80 (upd G D3 (.lst (xs.set i (.int z)))) D2 n ∧ IntM 80 (upd G D3 (.lst (xs.set i (.int z)))) D3 n := fun G xs i z ⟨q1, q2, q3, q4, q5⟩ hx bz => by
      have fu : Fr (K1 D3) G (upd G D3 (.lst (xs.set i (.int z)))) := Fr.updL rfl hx
      exact ⟨q1.other D3a D3c, Fr.dropS (W := fun b => K1 a b ∨ b = D3) ((q2.more fun _ z => .inl z).trans (fu.more fun _ z => .inr z)) fun b z => z.imp id fun e => by rw [e]; exact new3, q3.trans (fu.more fun _ z => .inr (.inr z)), q4.fr fu fun z => D32 z.symm, q5.set hx bz⟩
    have dr : ∀ (G G' : Hp), (FeedAt G a cl ∧ Fr (K1 a) H G ∧ Fr (fun b => b = a ∨ b = D2 ∨ b = D3) G6 G ∧ IntM 80 G D2 n ∧ IntM 80 G D3 n) → Fr (K1 a) G G' → FeedAt G' a cl → (FeedAt G' a cl ∧ Fr (K1 a) H G' ∧ Fr (fun b => b = a ∨ b = D2 ∨ b = D3) G6 G' ∧ IntM 80 G' D2 n ∧ IntM 80 G' D3 n) := fun G G' ⟨q1, q2, q3, q4, q5⟩ f fe => ⟨fe, q2.trans f, q3.trans (f.more fun _ z => .inl z), q4.fr f fun z => D2a z, q5.fr f fun z => D3a z⟩
    refine ⟨fun σ' G => σ' = [some (.ref a), some (.bl wide), some (.ref lm), some (.int (k : Int)), some (.int (n : Int)), some (.int sp), some (.ref D), some (.ref D2), some (.ref D3), none, none, none] ∧ (FeedAt G a cl ∧ Fr (K1 a) H G ∧ Fr (fun b => b = a ∨ b = D2 ∨ b = D3) G6 G ∧ IntM 80 G D2 n ∧ IntM 80 G D3 n), ?_, ?_⟩
    · refine ⟨_, rfl, _, _, rfl, rfl, _, rfl, ite2 (fun e0 => ?_) (fun _ => ⟨rfl, inv8⟩)⟩
      have np : 0 < n := by have := of_decide_eq_true e0; omega
      refine ⟨_, rfl, a, cl, 5, rfl, f8, by decide, by decide, fun y G9 _ _ f9 b9 => ?_⟩
      have inv9 := dr _ _ inv8 (Fr.but b9 f8 f9) f9
      refine ⟨_, _, rfl, rfl, _, rfl, ite2 (fun _ => ?_) (fun _ => ⟨rfl, inv9⟩)⟩
      refine ⟨_, rfl, a, cl, 2, rfl, f9, by decide, by decide, fun z G10 z0 z1 f10 b10 => ?_⟩
      have inv10 := dr _ _ inv9 (Fr.but b10 f9 f10) f10
      obtain ⟨xs, _, hx, lx, _, _⟩ := inv10.2.2.2.1.get np
      refine ⟨_, _, rfl, rfl, _, rfl, D2, xs, 0, 0, rfl, rfl, hx, ixN_at rfl (by omega), ?_⟩
      have inv11 := up2 _ xs 0 (1 + z) inv10 hx (bt80 (by omega))
      generalize upd G10 D2 (.lst (xs.set 0 (.int (1 + z)))) = G11 at *
      obtain ⟨ys, _, hy, ly, _, _⟩ := inv11.2.2.2.2.get np
      refine ⟨_, rfl, _, rfl, _, _, rfl, rfl, D3, ys, (n : Int) - 1, n - 1, rfl, rfl, hy, ixN_at (by omega) (by omega), ?_⟩
      exact ⟨rfl, up3 _ ys (n - 1) 1 inv11 hy (bt80 (by decide))⟩
    rintro σ' G9 ⟨rfl, inv9⟩
    -- bottoms
    refine ⟨_, rfl, _, _, rfl, rfl, k + 2, rfl, by omega, by omega, fun D4 nD4 => ?_⟩
    have f9 := inv9.1
    have D4a := (f9.ne_new nD4).1
    have D4c := (f9.ne_new nD4).2
    refine lc_it (walk_range (lo := 0) (n := k + 2)) (fun i G => Ls (K1 a) G9 D4 i (fun _ y => BotV y ∧ y = .int 1) G ∧ FeedAt G a cl) ⟨ls0 nD4, f9.other D4a D4c⟩ (fun _ _ _ _ => trivial) ?_ ?_
    · rintro i y G5 G6 hi ⟨b, fb⟩ ⟨rfl, rfl⟩
      refine ⟨rfl, ?_⟩
      obtain ⟨acc, a1, a2, a3⟩ := b.step (x := .int 1) nD4 (fun z => D4a z) (fun _ _ _ h _ => h) Fr.refl ⟨bot1, rfl⟩
      exact ⟨acc, a1, by rw [a2]; exact small1000 (by omega), a3, fb.other D4a D4c⟩
    rintro G10 ⟨b10, f10⟩
    have inv10 := dr _ _ inv9 b10.f f10
    have bm10 : BotN n G10 D4 (k + 2) := by
      obtain ⟨xs, h, l, e⟩ := b10.xs
      exact ⟨xs, h, l, fun x hx => ⟨(e x hx).1, fun _ => (e x hx).2⟩⟩
    have nb10 : G9 D4 = none := nD4
    refine ⟨fun σ' G => ∃ D4, σ' = [some (.ref a), some (.bl wide), some (.ref lm), some (.int (k : Int)), some (.int (n : Int)), some (.int sp), some (.ref D), some (.ref D2), some (.ref D3), some (.ref D4), none, none] ∧ (FeedAt G a cl ∧ Fr (K1 a) H G ∧ Fr (fun b => b = a ∨ b = D2 ∨ b = D3) G6 G ∧ IntM 80 G D2 n ∧ IntM 80 G D3 n) ∧ BotN n G D4 (k + 2) ∧ New G9 G D4, ?_, ?_⟩
    · refine ⟨_, rfl, _, _, rfl, rfl, _, rfl, ite2 (fun lt => ?_) (fun _ => ⟨D4, rfl, inv10, bm10, nD4, by obtain ⟨_, h, _⟩ := bm10; rw [h]; intro z; cases z⟩)⟩
      refine ⟨_, rfl, _, rfl, _, rfl, a, cl, k, n, rfl, f10, k4, by omega, fun r G11 g11 f11 nr bm => ?_⟩
      exact ⟨r, rfl, dr _ _ inv10 g11 f11, bm.of (by have := of_decide_eq_true lt; omega), b10.f.k.free nr.1, nr.2⟩
    rintro σ' G11 ⟨D4, rfl, inv11, bm11, nw11⟩
    have D4a : D4 ≠ a := fun z => f9.there (by rw [← z]; exact nw11.1)
    have D4c : D4 ≠ cl := fun z => by obtain ⟨ys, h⟩ := f9.lst2; rw [← z, nw11.1] at h; cases h
    have D42 : D4 ≠ D2 := fun z => inv9.2.2.2.1.there (by rw [← z]; exact nw11.1)
    have D43 : D4 ≠ D3 := fun z => inv9.2.2.2.2.there (by rw [← z]; exact nw11.1)
    refine ⟨fun σ' G => σ' = [some (.ref a), some (.bl wide), some (.ref lm), some (.int (k : Int)), some (.int (n : Int)), some (.int sp), some (.ref D), some (.ref D2), some (.ref D3), some (.ref D4), none, none] ∧ (FeedAt G a cl ∧ Fr (K1 a) H G ∧ Fr (fun b => b = a ∨ b = D2 ∨ b = D3) G6 G ∧ IntM 80 G D2 n ∧ IntM 80 G D3 n) ∧ BotN n G D4 (k + 2), ?_, ?_⟩
    · refine ⟨_, rfl, rfl, _, rfl, ite2 (fun e => ?_) (fun _ => ⟨_, rfl, rfl, _, rfl, ite2 (fun e => ?_) (fun _ => ⟨rfl, inv11, bm11⟩)⟩)⟩
      all_goals
        have np : 0 < n := by
          have e := of_decide_eq_true e
          injection e with e
          omega
        refine ⟨_, rfl, a, cl, 6, rfl, inv11.1, by decide, by decide, fun y G12 _ _ f12 b12 => ?_⟩
        have g12 := Fr.but b12 inv11.1 f12
        have inv12 := dr _ _ inv11 g12 f12
        have bm12 := bm11.fr g12 fun z => D4a z
        refine ⟨rfl, _, rfl, ite2 (fun _ => ?_) (fun _ => ⟨rfl, inv12, bm12⟩)⟩
        refine ⟨_, rfl, a, cl, rfl, f12, fun z G13 z0 bz f13 b13 => ?_⟩
        have g13 := Fr.but b13 f12 f13
        have inv13 := dr _ _ inv12 g13 f13
        have bm13 := bm12.fr g13 fun z => D4a z
        obtain ⟨xs, _, hx, lx, _, _⟩ := inv13.2.2.2.1.get np
        refine ⟨_, rfl, _, rfl, _, _, rfl, rfl, D2, xs, (n : Int) - 1, n - 1, rfl, rfl, hx, ixN_at (by omega) (by omega), ?_⟩
        have inv14 := up2 _ xs (n - 1) z inv13 hx (bz.up (by decide))
        have bm14 := bm13.fr (Fr.updL (W := K1 D2) (o := .lst (xs.set (n - 1) (.int z))) rfl hx) fun z => D42 z
        generalize upd G13 D2 (.lst (xs.set (n - 1) (.int z))) = G14 at *
        refine ⟨_, rfl, a, cl, rfl, inv14.1, fun z G15 z0 bz f15 b15 => ?_⟩
        have g15 := Fr.but b15 inv14.1 f15
        have inv15 := dr _ _ inv14 g15 f15
        have bm15 := bm14.fr g15 fun z => D4a z
        obtain ⟨ys, _, hy, ly, _, _⟩ := inv15.2.2.2.2.get np
        refine ⟨_, _, rfl, rfl, _, rfl, D3, ys, 0, 0, rfl, rfl, hy, ixN_at rfl (by omega), ?_⟩
        have b0 : Bt 80 (0 - z) := Bt.up (a := 70) (show (0 - z).natAbs < 2 ^ 70 by rw [Int.zero_sub, Int.natAbs_neg]; exact bz) (by decide)
        exact ⟨rfl, up3 _ ys 0 (0 - z) inv15 hy b0, bm15.fr (Fr.updL (W := K1 D3) rfl hy) fun z => D43 z⟩
    rintro σ' G12 ⟨rfl, inv12, bm12⟩
    obtain ⟨f12, base12, f612, i212, i312⟩ := inv12
    have nD4H : H D4 = none := inv9.2.1.k.free nw11.1
    refine ⟨_, rfl, _, rfl, _, rfl, _, rfl, _, rfl, (by show 5 ≤ sizeLine; decide), fun r nr => ?_⟩
    have s13 : Same G12 (upd G12 r (.tup [.int (k : Int), .ref D2, .ref D, .ref D3, .ref D4])) := Same.upd nr
    have hr : (upd G12 r (.tup [.int (k : Int), .ref D2, .ref D, .ref D3, .ref D4])) r = some (.tup [.int (k : Int), .ref D2, .ref D, .ref D3, .ref D4]) := upd_same
    generalize upd G12 r (.tup [.int (k : Int), .ref D2, .ref D, .ref D3, .ref D4]) = G13 at *
    have g13 : Fr Emp G12 G13 := Same.fr s13
    have f613 : Fr (fun b => b = a ∨ b = D2 ∨ b = D3) G6 G13 := f612.trans (g13.more fun _ z => z.elim)
    have i2' := i212.fr g13 id
    have i3' := i312.fr g13 id
    have b4' := bm12.fr g13 id
    refine kk r k n G13 k1 k4 n12 kn (base12.trans (g13.more fun _ z => z.elim)) (f12.same s13) ⟨⟨D2, D, D3, D4, hr, ⟨new2, i2'.there⟩, ⟨new3, i3'.there⟩, ⟨nD4H, by obtain ⟨_, h, _⟩ := b4'; rw [h]; intro z; cases z⟩, i2', hT.fr f613 PW (fun b z => z.up2 f613), i3', b4'⟩, new_al⟩
end
end RX

set_option Elab.async false
set_option maxRecDepth 100000
namespace RX
open PySem L2 LX VA VM VN
open RQ (Hg Bt)
abbrev sOver : Stmt := topS 50
theorem scOv : FnScope ["row", "bottom", "number"] ["row", "bottom"] (defScope sOver) := ⟨rfl, rfl, rfl, by decide +kernel, rfl, by decide +kernel, by decide +kernel⟩
abbrev sParts : Stmt := topS 51
theorem scPt : FnScope ["plain", "letters", "bottoms", "steps", "letter", "row"] ["plain"] (defScope sParts) := ⟨rfl, rfl, rfl, by decide +kernel, rfl, by decide +kernel, by decide +kernel⟩
/-- rows that are built -/
structure ColN (H0 : Hp) (D : Addr) (k : Nat) (ra : Nat → Addr) (n : Nat) (U : Nat → Nat → Rat) (G : Hp) : Prop where
  hD : G D = some (.lst ((List.range k).map fun i => V.ref (ra i)))
  s : Same H0 G
  ne : ∀ i, i < k → ra i ≠ D
  fr : ∀ i, i < k → H0 (ra i) = none
  inj : ∀ i, i < k → ∀ j, j < k → ra i = ra j → i = j
  rows : ∀ i, i < k → RowE G (ra i) n (U i)
theorem colN0 {H0 : Hp} {D : Addr} {n : Nat} (U : Nat → Nat → Rat) (nD : H0 D = none) : ColN H0 D 0 (fun _ => D) n U (upd H0 D (.lst [])) := ⟨upd_same, Same.upd nD, fun i a => absurd a (by omega), fun i a => absurd a (by omega), fun i a => absurd a (by omega), fun i a => absurd a (by omega)⟩
theorem ColN.step {H0 G G3 : Hp} {D L : Addr} {k n : Nat} {ra : Nat → Addr} {U : Nat → Nat → Rat} {v : Nat → Rat} (c : ColN H0 D k ra n U G) (nD : H0 D = none) (nL : G L = none) (s3 : Same G G3) (r : RowE G3 L n v) :
    G3 D = some (.lst ((List.range k).map fun i => V.ref (ra i))) ∧ ColN H0 D (k + 1) (ext ra k L) n (ext U k v) (upd G3 D (.lst (((List.range k).map fun i => V.ref (ra i)) ++ [.ref L]))) := by
  have hD3 := s3 _ _ c.hD
  have LD : D ≠ L := fun z => by rw [← z, c.hD] at nL; cases nL
  have f : Fr (K1 D) G3 (upd G3 D (.lst (((List.range k).map fun i => V.ref (ra i)) ++ [.ref L]))) := Fr.updL rfl hD3
  have old : ∀ i, i < k → ra i ≠ L := fun i hi z => (c.rows i hi).there (by rw [z]; exact nL)
  refine ⟨hD3, ?_, fun b o hb => ?_, fun i hi => ?_, fun i hi => ?_, fun i hi j hj e => ?_, fun i hi => ?_⟩
  · rw [upd_same, List.range_succ, List.map_append]
    congr 3
    · exact List.map_congr_left fun i hi => by rw [ext_lt ra L (List.mem_range.mp hi)]
    · show [V.ref L] = [V.ref (ext ra k L k)]
      rw [ext_same]
  · rw [upd_ne (ne_of_none hb nD)]
    exact s3 _ _ (c.s _ _ hb)
  · by_cases e : i = k
    · rw [e, ext_same]; exact fun z => LD z.symm
    · rw [ext_lt ra L (by omega)]; exact c.ne i (by omega)
  · by_cases e : i = k
    · rw [e, ext_same]; exact c.s.free nL
    · rw [ext_lt ra L (by omega)]; exact c.fr i (by omega)
  · by_cases e1 : i = k
    · by_cases e2 : j = k
      · omega
      · rw [e1, ext_same, ext_lt ra L (by omega)] at e
        exact absurd e.symm (old j (by omega))
    · by_cases e2 : j = k
      · rw [e2, ext_same, ext_lt ra L (by omega)] at e
        exact absurd e (old i (by omega))
      · rw [ext_lt ra L (by omega), ext_lt ra L (by omega)] at e
        exact c.inj i (by omega) j (by omega) e
  · by_cases e : i = k
    · rw [e, ext_same, ext_same]
      exact r.fr f fun z => LD z.symm
    · rw [ext_lt ra L (by omega), ext_lt U v (by omega)]
      exact ((c.rows i (by omega)).same s3).fr f fun z => c.ne i (by omega) z
def own (D : Addr) (k : Nat) (ra : Nat → Addr) : Addr → Prop := fun b => b = D ∨ ∃ i, i < k ∧ b = ra i
theorem ColN.tab {H0 G : Hp} {D : Addr} {k n : Nat} {ra : Nat → Addr} {U : Nat → Nat → Rat} (c : ColN H0 D k ra n U G) : TabE G (own D k ra) D k n ra U :=
  ⟨c.hD, .inl rfl, fun i hi => .inr ⟨i, hi, rfl⟩, c.ne, c.inj, c.rows, fun b z => by
    rcases z with z | ⟨i, hi, z⟩
    · rw [z, c.hD]; intro y; cases y
    · rw [z]; exact (c.rows i hi).there⟩
theorem ColN.new {H0 G : Hp} {D : Addr} {k n : Nat} {ra : Nat → Addr} {U : Nat → Nat → Rat} (c : ColN H0 D k ra n U G) (nD : H0 D = none) : ∀ b, own D k ra b → H0 b = none := fun b z => by
  rcases z with z | ⟨i, hi, z⟩
  · rw [z]; exact nD
  · rw [z]; exact c.fr i hi
/-- tables that are built -/
structure Stl (H0 : Hp) (D : Addr) (k : Nat) (sa : Nat → Addr) (X : Nat → Addr → Prop) (n : Nat) (TT : Nat → Nat → Nat → Rat) (G : Hp) : Prop where
  hD : G D = some (.lst ((List.range k).map fun i => V.ref (sa i)))
  s : Same H0 G
  tt : ∀ x, x < k → ∃ ra, TabE G (X x) (sa x) n n ra (TT x)
  fr : ∀ x, x < k → ∀ b, X x b → H0 b = none ∧ b ≠ D
  dj : ∀ x, x < k → ∀ y, y < k → x ≠ y → ∀ b, X x b → ¬ X y b
theorem stl0 {H0 : Hp} {D : Addr} {n : Nat} (TT : Nat → Nat → Nat → Rat) (nD : H0 D = none) : Stl H0 D 0 (fun _ => D) (fun _ _ => False) n TT (upd H0 D (.lst [])) := ⟨upd_same, Same.upd nD, fun i a => absurd a (by omega), fun i a => absurd a (by omega), fun i a => absurd a (by omega)⟩
def extX (X : Nat → Addr → Prop) (k : Nat) (Y : Addr → Prop) : Nat → Addr → Prop := fun x => if x = k then Y else X x
theorem Stl.step {H0 G G3 : Hp} {D L : Addr} {k n : Nat} {sa ra : Nat → Addr} {X : Nat → Addr → Prop} {TT : Nat → Nat → Nat → Rat} {U : Nat → Nat → Rat} (c : Stl H0 D k sa X n TT G) (nD : H0 D = none) (nL : G L = none) (r : ColN G L n ra n U G3) :
    G3 D = some (.lst ((List.range k).map fun i => V.ref (sa i))) ∧ Stl H0 D (k + 1) (ext sa k L) (extX X k (own L n ra)) n (ext TT k U) (upd G3 D (.lst (((List.range k).map fun i => V.ref (sa i)) ++ [.ref L]))) := by
  have s3 := r.s
  have hD3 := s3 _ _ c.hD
  have f : Fr (K1 D) G3 (upd G3 D (.lst (((List.range k).map fun i => V.ref (sa i)) ++ [.ref L]))) := Fr.updL rfl hD3
  have nw := r.new nL
  have nD2 : ∀ b, own L n ra b → b ≠ D := fun b z e => by
    have := nw b z
    rw [e, c.hD] at this
    cases this
  refine ⟨hD3, ?_, fun b o hb => ?_, fun x hx => ?_, fun x hx b hb => ?_, fun x hx y hy ne b hb hb2 => ?_⟩
  · rw [upd_same, List.range_succ, List.map_append]
    congr 3
    · exact List.map_congr_left fun i hi => by rw [ext_lt sa L (List.mem_range.mp hi)]
    · show [V.ref L] = [V.ref (ext sa k L k)]
      rw [ext_same]
  · rw [upd_ne (ne_of_none hb nD)]
    exact s3 _ _ (c.s _ _ hb)
  · by_cases e : x = k
    · unfold extX
      rw [if_pos e, e, ext_same, ext_same]
      exact ⟨ra, r.tab.fr f fun b z y => nD2 b z y⟩
    · unfold extX
      rw [if_neg e, ext_lt sa L (by omega), ext_lt TT U (by omega)]
      obtain ⟨ra', t⟩ := c.tt x (by omega)
      exact ⟨ra', (t.same s3).fr f fun b z y => (c.fr x (by omega) b z).2 y⟩
  · unfold extX at hb
    by_cases e : x = k
    · rw [if_pos e] at hb
      exact ⟨c.s.free (nw b hb), nD2 b hb⟩
    · rw [if_neg e] at hb
      exact c.fr x (by omega) b hb
  · unfold extX at hb hb2
    have key : ∀ y, y < k → ∀ b, own L n ra b → ¬ X y b := fun y hy b h1 h2 => by
      obtain ⟨ra', t⟩ := c.tt y hy
      exact t.al b h2 (nw b h1)
    by_cases e : x = k
    · rw [if_pos e] at hb
      rw [if_neg (by omega)] at hb2
      exact key y (by omega) b hb hb2
    · rw [if_neg e] at hb
      by_cases e2 : y = k
      · rw [if_pos e2] at hb2
        exact key x (by omega) b hb2 hb
      · rw [if_neg e2] at hb2
        exact c.dj x (by omega) y (by omega) ne b hb hb2
/-- the parts, of what was built -/
theorem pm_of {H0 G G1 G2 G3 : Hp} {D ps pe q : Addr} {k n : Nat} {sa : Nat → Addr} {X : Nat → Addr → Prop} {us ue : Nat → Rat} {TT : Nat → Nat → Nat → Rat} (c : Stl H0 D k sa X n TT G) (nD : H0 D = none) (s1 : Same G G1) (r1 : RowE G1 ps n us) (n1 : G ps = none) (s2 : Same G1 G2) (r2 : RowE G2 pe n ue) (n2 : G1 pe = none) (nq : G2 q = none) (s3 : Same G2 G3) (hq : G3 q = some (.lst [.int (k : Int), .ref ps, .ref D, .ref pe])) :
    Pe G3 (fun b => b = q ∨ b = ps ∨ b = D ∨ b = pe ∨ ∃ x, x < k ∧ X x b) q ⟨k, n, us, TT, ue⟩ ∧ ∀ b, (b = q ∨ b = ps ∨ b = D ∨ b = pe ∨ ∃ x, x < k ∧ X x b) → H0 b = none := by
  have s03 : Same G G3 := s1.trans (s2.trans s3)
  have tG : ∀ {b}, (∃ x, x < k ∧ X x b) → G b ≠ none := fun ⟨x, hx, z⟩ => by
    obtain ⟨ra, t⟩ := c.tt x hx
    exact t.al _ z
  have tq := hq
  have q0 : ∀ {b}, G2 b ≠ none → q ≠ b := fun h z => h (by rw [← z]; exact nq)
  have up12 : ∀ {b}, G1 b ≠ none → G2 b ≠ none := fun h => (Same.keep (N := Emp) s2).a _ h
  have up01 : ∀ {b}, G b ≠ none → G1 b ≠ none := fun h => (Same.keep (N := Emp) s1).a _ h
  have up23 : ∀ {b}, G2 b ≠ none → G3 b ≠ none := fun h => (Same.keep (N := Emp) s3).a _ h
  have tD : G D ≠ none := by rw [c.hD]; intro z; cases z
  have tps := r1.there
  have tpe := r2.there
  have psD : ps ≠ D := fun z => tD (by rw [← z]; exact n1)
  have peD : pe ≠ D := fun z => up01 tD (by rw [← z]; exact n2)
  have pspe : ps ≠ pe := fun z => tps (by rw [z]; exact n2)
  refine ⟨⟨ps, D, pe, sa, X, hq, s03 _ _ c.hD, r1.same (s2.trans s3), r2.same s3, fun x hx => let ⟨ra, t⟩ := c.tt x hx; ⟨ra, t.same s03⟩, .inl rfl, .inr (.inl rfl), .inr (.inr (.inl rfl)), .inr (.inr (.inr (.inl rfl))), ⟨⟨q0 (up12 tps), q0 (up12 (up01 tD)), q0 tpe⟩, ⟨psD, pspe⟩, fun z => peD z.symm⟩, fun x hx b z => ⟨.inr (.inr (.inr (.inr ⟨x, hx, z⟩))), ?_, ?_, (c.fr x hx b z).2, ?_⟩, c.dj, fun b z => ?_⟩, fun b z => ?_⟩
  · exact fun e => q0 (up12 (up01 (tG ⟨x, hx, z⟩))) e.symm
  · exact fun e => tG ⟨x, hx, z⟩ (by rw [e]; exact n1)
  · exact fun e => up01 (tG ⟨x, hx, z⟩) (by rw [e]; exact n2)
  · rcases z with z | z | z | z | z
    · rw [z, hq]; intro y; cases y
    · rw [z]; exact up23 (up12 tps)
    · rw [z]; exact up23 (up12 (up01 tD))
    · rw [z]; exact up23 tpe
    · exact up23 (up12 (up01 (tG z)))
  · rcases z with z | z | z | z | ⟨x, hx, z⟩
    · rw [z]; exact c.s.free (s1.free (s2.free nq))
    · rw [z]; exact c.s.free n1
    · rw [z]; exact nD
    · rw [z]; exact c.s.free (s1.free n2)
    · exact (c.fr x hx b z).1
theorem ColN.congr {H0 G : Hp} {D : Addr} {k n : Nat} {ra : Nat → Addr} {U V' : Nat → Nat → Rat} (c : ColN H0 D k ra n U G) (e : ∀ j, j < k → U j = V' j) : ColN H0 D k ra n V' G := ⟨c.hD, c.s, c.ne, c.fr, c.inj, fun i hi => by rw [← e i hi]; exact c.rows i hi⟩
theorem Stl.congr {H0 G : Hp} {D : Addr} {k n : Nat} {sa : Nat → Addr} {X : Nat → Addr → Prop} {TT T2 : Nat → Nat → Nat → Rat} (c : Stl H0 D k sa X n TT G) (e : ∀ j, j < k → TT j = T2 j) : Stl H0 D k sa X n T2 G := ⟨c.hD, c.s, fun x hx => by rw [← e x hx]; exact c.tt x hx, c.fr, c.dj⟩
/-! ### the law's plain machine as data -/
structure Pl where
  k : Nat
  n : Nat
  s : Nat → Int
  t : Nat → Nat → Nat → Int
  e : Nat → Int
  b : Nat → Int
def plD (p : Pl) : Dat := .tup [.int (p.k : Int), intL p.n p.s, .lst (rng p.k fun x => .lst (rng p.n fun i => intL p.n (p.t x i))), intL p.n p.e, intL (p.k + 2) p.b]
structure PlB (p : Pl) : Prop where
  k1 : 1 ≤ p.k
  k4 : p.k ≤ 4
  n12 : p.n ≤ 12
  kn : 1 < p.k → p.n ≤ 5
  s : ∀ j, j < p.n → Bt 80 (p.s j)
  e : ∀ j, j < p.n → Bt 80 (p.e j)
  t : ∀ x, x < p.k → ∀ i, i < p.n → ∀ j, j < p.n → Bt 10 (p.t x i j)
  b : Bots p.k p.b
  b1 : 4 ≤ p.n → ∀ j, j < p.k + 2 → p.b j = 1
theorem choose_n {n : Nat} {α : Type} [Inhabited α] {P : Nat → α → Prop} (h : ∀ j, j < n → ∃ q, P j q) : ∃ u : Nat → α, ∀ j, j < n → P j (u j) := by
  have g : ∀ j, ∃ q, j < n → P j q := fun j => by
    by_cases hj : j < n
    · obtain ⟨q, hq⟩ := h j hj
      exact ⟨q, fun _ => hq⟩
    · exact ⟨default, fun z => absurd z hj⟩
  exact ⟨fun j => (g j).choose, fun j hj => (g j).choose_spec hj⟩
theorem ints_of {xs : List V} {Φ : Int → Prop} (h : ∀ x ∈ xs, ∃ z : Int, x = .int z ∧ Φ z) : ∃ z : Nat → Int, xs = iV xs.length z ∧ ∀ j, j < xs.length → Φ (z j) := by
  obtain ⟨z, hz⟩ := choose_n (n := xs.length) (P := fun j z => xs[j]? = some (.int z) ∧ Φ z) fun j hj => by
    obtain ⟨z, e, b⟩ := h _ (List.getElem_mem hj)
    exact ⟨z, by rw [List.getElem?_eq_getElem hj, e], b⟩
  refine ⟨z, List.ext_getElem? fun i => ?_, fun j hj => (hz j hj).2⟩
  by_cases hi : i < xs.length
  · rw [(hz i hi).1, iV_get hi]
  · rw [List.getElem?_eq_none (by omega), List.getElem?_eq_none (by rw [iV_len]; omega)]
theorem IntM.at {B : Nat} {H : Hp} {a : Addr} {n : Nat} (h : IntM B H a n) : ∃ z : Nat → Int, H a = some (.lst (iV n z)) ∧ ∀ j, j < n → Bt B (z j) := by
  obtain ⟨xs, h, l, e⟩ := h
  obtain ⟨z, e1, e2⟩ := ints_of (Φ := Bt B) e
  rw [l] at e1 e2
  exact ⟨z, by rw [h, e1], e2⟩
theorem PlM.at {C : Addr} {H : Hp} {P : Addr → Prop} {q : Addr} {k n : Nat} (h : PlM 80 H P q k n) (k1 : 1 ≤ k) (k4 : k ≤ 4) (n12 : n ≤ 12) (kn : 1 < k → n ≤ 5) : ∃ p : Pl, p.k = k ∧ p.n = n ∧ PlB p ∧ At C Emp H (.ref q) (plD p) := by
  obtain ⟨ps, pt, pe, pb, h1, p1, p2, p3, i1, ⟨ts, hts, pts, lts, ets⟩, i2, ⟨bs, hbs, lbs, ebs⟩⟩ := h.ex
  obtain ⟨s, hs, bs1⟩ := i1.at
  obtain ⟨e, he, be⟩ := i2.at
  obtain ⟨b, eb, bb⟩ := ints_of (Φ := fun z => (z ≠ 0 ∧ Bt 70 z) ∧ (4 ≤ n → z = 1)) (xs := bs) fun x hx => by
    obtain ⟨⟨z, e, z0, bz⟩, h1⟩ := ebs x hx
    exact ⟨z, e, ⟨z0, bz⟩, fun l => by have := h1 l; rw [e] at this; injection this⟩
  rw [lbs] at eb bb
  obtain ⟨t, ht⟩ := choose_n (n := k) (P := fun x (U : Nat → Nat → Int) => ∃ v, ts[x]? = some v ∧ At C Emp H v (.lst (rng n fun i => intL n (U i))) ∧ ∀ i, i < n → ∀ j, j < n → Bt 10 (U i j)) fun x hx => by
    have hl : x < ts.length := by omega
    obtain ⟨ta, ys, eta, pta, hta, lys, eys⟩ := ets _ (List.getElem_mem hl)
    obtain ⟨U, hU⟩ := choose_n (n := n) (P := fun i (z : Nat → Int) => ∃ v, ys[i]? = some v ∧ At C Emp H v (intL n z) ∧ ∀ j, j < n → Bt 10 (z j)) fun i hi => by
      have hl2 : i < ys.length := by omega
      obtain ⟨rb, erb, _, irb⟩ := eys _ (List.getElem_mem hl2)
      obtain ⟨z, hz, bz⟩ := irb.at
      exact ⟨z, .ref rb, by rw [List.getElem?_eq_getElem hl2, erb], at_ints hz id, bz⟩
    refine ⟨U, .ref ta, by rw [List.getElem?_eq_getElem hl, eta], .lst hta id (by rw [rng_len, lys]) fun i v d hv hd => ?_, fun i hi => (hU i hi).choose_spec.2.2⟩
    obtain ⟨hi, rfl⟩ := rng_lt hd
    obtain ⟨v', e1, e2, _⟩ := hU i hi
    rw [e1] at hv
    obtain rfl := Option.some.inj hv
    exact e2
  refine ⟨⟨k, n, s, t, e, b⟩, rfl, rfl, ⟨k1, k4, n12, kn, bs1, be, fun x hx => (ht x hx).choose_spec.2.2, ⟨fun j hj => (bb j hj).1⟩, fun l j hj => (bb j hj).2 l⟩, ?_⟩
  refine .tup h1 id rfl (itemsC (.int _) (itemsC (at_ints hs id) (itemsC (.lst hts id (by rw [rng_len, lts]) fun x v d hv hd => ?_) (itemsC (at_ints he id) (items1 (at_ints (by rw [hbs, eb]) id))))))
  obtain ⟨hi, rfl⟩ := rng_lt hd
  obtain ⟨v', e1, e2, _⟩ := ht x hi
  rw [e1] at hv
  obtain rfl := Option.some.inj hv
  exact e2
theorem At.lstA {C : Addr} {N : Addr → Prop} {H : Hp} {p : Addr} {n : Nat} {g : Nat → List Dat} (h : At C N H (.ref p) (.lst (rng n fun i => .lst (g i)))) : ∃ ra : Nat → Addr, H p = some (.lst ((List.range n).map fun i => V.ref (ra i))) ∧ ∀ i, i < n → At C N H (.ref (ra i)) (.lst (g i)) := by
  obtain ⟨xs, hx, l, e⟩ := At.lstR h
  obtain ⟨ra, hr⟩ := choose_n (n := n) (P := fun i (a : Addr) => xs[i]? = some (.ref a) ∧ At C N H (.ref a) (.lst (g i))) fun i hi => by
    obtain ⟨x, e1, e2⟩ := e i hi
    obtain ⟨a, rfl⟩ := e2.lstV
    exact ⟨a, e1, e2⟩
  refine ⟨ra, ?_, fun i hi => (hr i hi).2⟩
  rw [hx]
  congr 2
  refine List.ext_getElem? fun i => ?_
  by_cases hi : i < n
  · rw [(hr i hi).1, TabR.get hi]
  · rw [List.getElem?_eq_none (by omega), List.getElem?_eq_none (by rw [List.length_map, List.length_range]; omega)]
/-- what stands at a plain machine -/
theorem At.pl {C : Addr} {N : Addr → Prop} {H : Hp} {q : Addr} {p : Pl} (h : At C N H (.ref q) (plD p)) : ∃ (ps pt pe pb : Addr) (ta : Nat → Addr), H q = some (.tup [.int (p.k : Int), .ref ps, .ref pt, .ref pe, .ref pb]) ∧ H ps = some (.lst (iV p.n p.s)) ∧ H pt = some (.lst ((List.range p.k).map fun x => V.ref (ta x))) ∧ H pe = some (.lst (iV p.n p.e)) ∧ H pb = some (.lst (iV (p.k + 2) p.b)) ∧
    ∀ x, x < p.k → ∃ ra : Nat → Addr, H (ta x) = some (.lst ((List.range p.n).map fun i => V.ref (ra i))) ∧ ∀ i, i < p.n → H (ra i) = some (.lst (iV p.n (p.t x i))) := by
  obtain ⟨xs, hx, l, e⟩ := At.tupE h
  match xs, l with
  | [v0, v1, v2, v3, v4], _ =>
  have h0 := (e 0 v0 _ rfl rfl).intV
  have h1 := e 1 v1 _ rfl rfl
  have h2 := e 2 v2 _ rfl rfl
  have h3 := e 3 v3 _ rfl rfl
  have h4 := e 4 v4 _ rfl rfl
  subst h0
  obtain ⟨ps, rfl⟩ := h1.lstV
  obtain ⟨pt, rfl⟩ := h2.lstV
  obtain ⟨pe, rfl⟩ := h3.lstV
  obtain ⟨pb, rfl⟩ := h4.lstV
  obtain ⟨ta, t1, t2⟩ := At.lstA h2
  refine ⟨ps, pt, pe, pb, ta, hx, h1.ints, t1, h3.ints, h4.ints, fun x hx => ?_⟩
  obtain ⟨ra, r1, r2⟩ := At.lstA (g := fun i => rng p.n fun j => .int (p.t x i j)) (t2 x hx)
  exact ⟨ra, r1, fun i hi => At.ints (r2 i hi)⟩
def m0 (p : Pl) : Mc := ⟨p.k, p.n, fun j => (p.s j : Rat) / (p.b 0 : Rat), fun x i j => (p.t x i j : Rat) / (p.b (x + 1) : Rat), fun j => (p.e j : Rat) / (p.b (p.k + 1) : Rat)⟩
def spOv : Sp := fun vs H Q _ => ∃ (p : Addr) (n : Nat) (z : Nat → Int) (b : Int), vs = [.ref p, .int b] ∧ H p = some (.lst (iV n z)) ∧ n ≤ 1000 ∧ b ≠ 0 ∧ ∀ (r : Addr) (H' : Hp), Same H H' → H r = none → RowE H' r n (fun j => (z j : Rat) / (b : Rat)) → Q (.ref r) H'
def spPt (C : Addr) : Sp := fun vs H Q _ => ∃ (q : Addr) (p : Pl), vs = [.ref q] ∧ At C Emp H (.ref q) (plD p) ∧ PlB p ∧ ∀ (r : Addr) (H' : Hp) (O : Addr → Prop), Same H H' → (∀ b, O b → H b = none) → Pe H' O r (m0 p) → Q (.ref r) H'
section
variable {P : Program} {w : World} {K : PySem.W.Frag} {mg : Str → Option Value} {base : Heap}
theorem ok_ov {f fL : Addr} {fd dL : FuncData} (F : Fun K "_law_over" "_law_over" sOver f fd) (cLo : CalN P w K mg base "_law_lowest" 33 ["top", "bottom"] spPairB fL dL) : FnOk P w K mg base CX0 34 f fd ["row", "bottom"] spOv := by
  refine F.ok scOv (fun vs H Q E h => ?_) (fun cdv A outer s H vs Q E hr h => ?_)
  · obtain ⟨p, n, z, b, rfl, _⟩ := h
    rfl
  · obtain ⟨p, n, z, b, rfl, hx, hn, b0, kk⟩ := h
    have hr33 : Room 33 _ := hr
    refine ⟨_, pss_one (ps_ret (pe_lc (own := [("number", 2)]) (g := gName 2) (tt := tYes) rfl scOv.nd (pi_list (pv 0)) (blkOk_by (N := ["row", "bottom", "number"]) (sc := (defScope sOver)) (by decide +kernel)) (fun _ _ _ _ _ => (pg_name (i := 2) scOv.nd rfl (.inl rfl))) (fun _ _ _ _ _ => pts_nil) (fun _ _ _ _ _ => (pe_call cLo.G hr33 rfl cLo.m cLo.kp cLo.b .nil pass0 (pa_cons (pv 2) (pa_cons (pv 1) pa_nil)))))), ?_⟩
    refine ⟨_, rfl, p, rfl, ⟨_, SqL.of hx⟩, fun D nD => ?_⟩
    refine lc_it (walk_list (K := K) (a := p) (xs := iV n z)) (fun i G => Bl Emp H D i (fun j => (z j : Rat) / (b : Rat)) G) (bl0 nD _) (fun i G _ b => SqL.of (b.f.get hx id)) ?_ ?_
    · rintro i x G1 G2 hi bl ⟨rfl, hxi⟩
      obtain ⟨hi', rfl⟩ := iV_lt hxi
      refine ⟨rfl, _, rfl, _, rfl, z i, b, rfl, b0, fun r G3 s3 nr hR => ?_⟩
      obtain ⟨e1, e2⟩ := RQ.low b0 (div_eq (n := z i) b0)
      rw [e1, e2] at hR
      obtain ⟨acc, a1, a2, a3⟩ := bl.step (p := r) nD id (Same.fr s3) hR
      refine ⟨acc, a1, by rw [a2]; exact small1000 (by omega), a3.congr fun j hj => ?_⟩
      by_cases e : j = i
      · rw [e, ext_same]
      · rw [ext_lt _ _ (by omega)]
    · rintro G1 bl
      rw [iV_len] at bl
      exact kk D G1 bl.f.k.same nD bl.r
theorem ok_pt {f fO C : Addr} {fd dO : FuncData} (F : Fun K "_law_parts" "_law_parts" sParts f fd) (T : TxtL mg) (cOv : CalN P w K mg base "_law_over" 34 ["row", "bottom"] spOv fO dO) : FnOk P w K mg base CX0 35 f fd ["plain"] (spPt C) := by
  refine F.ok scPt (fun vs H Q E h => ?_) (fun cdv A outer s H vs Q E hr h => ?_)
  · obtain ⟨q, p, rfl, _⟩ := h
    rfl
  · obtain ⟨q, pl, rfl, hq, pb, kk⟩ := h
    have hr34 : Room 34 _ := hr
    obtain ⟨ps, pt, pe, pbb, ta, h1, hps, hpt, hpe, hpb, hta⟩ := hq.pl
    have k4 := pb.k4
    have n12 := pb.n12
    have b0 : ∀ j, j < pl.k + 2 → pl.b j ≠ 0 := fun j hj => (pb.b.h j hj).1
    refine ⟨_, pss_cons (ps_set (i := 1) scPt.nd rfl (.inl rfl) (pe_ix ix_tup (pv 0) pe_int (fun _ _ => rfl)))
      (pss_cons (ps_set (i := 2) scPt.nd rfl (.inr rfl) (pe_ix ix_tup (pv 0) pe_int (fun _ _ => rfl)))
      (pss_cons (ps_set (i := 3) scPt.nd rfl (.inl rfl) (pe_lst pa_nil))
      (pss_cons (ps_for PassesOwn.never rfl (pi_range1 (by rfl) T.range (pa_cons (pv 1) pa_nil)) (pg_name (i := 4) scPt.nd rfl (.inr rfl))
        (pss_one (ps_expr (pe_bm PySem.F.plainAttrs_list PySem.F.slot_list_append PySem.F.type_list_append mt_append (pv 3) (pa_cons (pe_lc (own := [("row", 5)]) (g := gName 5) (tt := tYes) rfl scPt.nd (pi_list (pe_ix ix_list (pe_ix ix_tup (pv 0) pe_int (fun _ _ => rfl)) (pv 4) (fun _ _ => rfl))) (blkOk_by (N := ["plain", "letters", "bottoms", "steps", "letter", "row"]) (sc := (defScope sParts)) (by decide +kernel)) (fun _ _ _ _ _ => (pg_name (i := 5) scPt.nd rfl (.inl rfl))) (fun _ _ _ _ _ => pts_nil) (fun _ _ _ _ _ => (pe_call cOv.G hr34 rfl cOv.m cOv.kp cOv.b .nil pass0 (pa_cons (pv 5) (pa_cons (pe_ix (show IxR _ (rIxL K) from ix_list) (pv 2) (pe_op op_add pe_int (pv 4)) (fun _ _ => rfl)) pa_nil))))) pa_nil)))))
      (pss_one (ps_ret (pe_lst (pa_cons (pv 1) (pa_cons (pe_call cOv.G hr34 rfl cOv.m cOv.kp cOv.b .nil pass0 (pa_cons (pe_ix ix_tup (pv 0) pe_int (fun _ _ => rfl)) (pa_cons (pe_ix ix_list (pv 2) pe_int (fun _ _ => rfl)) pa_nil))) (pa_cons (pv 3) (pa_cons (pe_call cOv.G hr34 rfl cOv.m cOv.kp cOv.b .nil pass0 (pa_cons (pe_ix ix_tup (pv 0) pe_int (fun _ _ => rfl)) (pa_cons (pe_ix ix_list (pv 2) (pe_op op_add (pv 1) pe_int) (fun _ _ => rfl)) pa_nil))) pa_nil)))))))))), ?_⟩
    refine ⟨_, rfl, q, _, 0, _, rfl, rfl, SqT.of h1, rfl, ?_⟩
    refine ⟨_, rfl, q, _, 4, _, rfl, rfl, SqT.of h1, rfl, ?_⟩
    refine ⟨(by show 0 ≤ sizeLine; decide), fun D nD => ?_⟩
    refine ⟨_, rfl, pl.k, rfl, by omega, by omega, for_range (n := pl.k) (fun x σ G => ∃ o4 sa X, σ = [some (.ref q), some (.int (pl.k : Int)), some (.ref pbb), some (.ref D), o4, none] ∧ Stl H D x sa X pl.n (m0 pl).t G) ⟨none, _, _, rfl, stl0 _ nD⟩ ?_ ?_⟩
    · rintro x σ G hx ⟨o4, sa, X, rfl, st⟩
      have sG := st.s
      obtain ⟨ra0, hra, hrow⟩ := hta x hx
      refine ⟨_, rfl, .inl ⟨rfl, _, SqL.of st.hD⟩, _, rfl, q, _, 2, _, rfl, rfl, SqT.of (sG _ _ h1), rfl, _, rfl, pt, _, _, _, rfl, rfl, SqL.of (sG _ _ hpt), at_of (Int.zero_add _) (TabR.get hx), ta x, rfl, ⟨_, SqL.of (sG _ _ hra)⟩, fun L nL => ?_⟩
      refine lc_it (walk_list (K := K) (a := ta x) (xs := (List.range pl.n).map fun i => V.ref (ra0 i))) (fun i G2 => ∃ ra, ColN G L i ra pl.n ((m0 pl).t x) G2) ⟨_, colN0 _ nL⟩ (fun i G2 _ b => by obtain ⟨_, c⟩ := b; exact SqL.of (c.s _ _ (sG _ _ hra))) ?_ ?_
      · rintro i y G1 G2 hi ⟨ra, c⟩ ⟨rfl, hyi⟩
        rw [List.length_map, List.length_range] at hi
        rw [TabR.get hi] at hyi
        obtain rfl := Option.some.inj hyi
        have s2 := sG.trans c.s
        refine ⟨rfl, _, rfl, _, rfl, _, rfl, _, _, rfl, rfl, pbb, _, _, _, rfl, rfl, SqL.of (s2 _ _ hpb), at_of (by show (1 : Int) + (0 + (x : Int)) = ((x + 1 : Nat) : Int); omega) (iV_get (show x + 1 < pl.k + 2 by omega)), ra0 i, pl.n, pl.t x i, pl.b (x + 1), rfl, s2 _ _ (hrow i hi), by omega, b0 _ (by omega), fun r G3 s3 nr hr3 => ?_⟩
        obtain ⟨a1, a2⟩ := c.step nL nr s3 hr3
        refine ⟨_, a1, by rw [List.length_map, List.length_range]; exact small1000 (by omega), _, a2.congr fun j hj => ?_⟩
        by_cases e : j = i
        · rw [e, ext_same]; rfl
        · rw [ext_lt _ _ (by omega)]
      · rintro G2 ⟨ra, c⟩
        rw [List.length_map, List.length_range] at c
        obtain ⟨a1, a2⟩ := st.step nD nL c
        refine ⟨D, _, _, rfl, rfl, a1, by rw [List.length_map, List.length_range]; exact small1000 (by omega), _, _, _, rfl, a2.congr fun j hj => ?_⟩
        by_cases e : j = x
        · rw [e, ext_same]
        · rw [ext_lt _ _ (by omega)]
    · rintro σ G ⟨o4, sa, X, rfl, st⟩
      have sG := st.s
      refine ⟨_, rfl, _, rfl, q, _, 1, _, rfl, rfl, SqT.of (sG _ _ h1), rfl, _, rfl, pbb, _, 0, _, rfl, rfl, SqL.of (sG _ _ hpb), at_of rfl (iV_get (show 0 < pl.k + 2 by omega)), ps, pl.n, pl.s, pl.b 0, rfl, sG _ _ hps, by omega, b0 _ (by omega), fun r1 G1 s1 nr1 hr1 => ?_⟩
      have s01 := sG.trans s1
      refine ⟨_, rfl, _, rfl, q, _, 3, _, rfl, rfl, SqT.of (s01 _ _ h1), rfl, _, rfl, _, rfl, _, _, rfl, rfl, pbb, _, _, _, rfl, rfl, SqL.of (s01 _ _ hpb), at_of (by show (pl.k : Int) + 1 = ((pl.k + 1 : Nat) : Int); omega) (iV_get (show pl.k + 1 < pl.k + 2 by omega)), pe, pl.n, pl.e, pl.b (pl.k + 1), rfl, s01 _ _ hpe, by omega, b0 _ (by omega), fun r2 G2 s2 nr2 hr2 => ?_⟩
      refine ⟨(by show 4 ≤ sizeLine; decide), fun r nr => ?_⟩
      have s3 : Same G2 (upd G2 r (.lst [.int (pl.k : Int), .ref r1, .ref D, .ref r2])) := Same.upd nr
      obtain ⟨pm, nw⟩ := pm_of st nD s1 hr1 nr1 s2 hr2 nr2 nr s3 upd_same
      exact kk r _ _ (s01.trans (s2.trans s3)) nw pm
end
end RX

set_option Elab.async false
set_option maxRecDepth 100000
namespace RX
open PySem L2 LX VA VM VN
open RQ (Hg Bt)
/-! ### a machine that is alike to the plain one -/
abbrev sAlk : Stmt := topS 59
theorem scAlk : FnScope ["tape", "plain", "most", "parts", "turn"] ["tape", "plain", "most"] (defScope sAlk) := ⟨rfl, rfl, rfl, by decide +kernel, rfl, by decide +kernel, by decide +kernel⟩
theorem sml_ov {b : Int} {q : Rat} (h : Sml q) (b0 : b ≠ 0 ∧ Bt 70 b) : Ov (b * 6 ^ (0 + 1)) 84 q := by
  have d0 := q.den_pos
  have d3 := h.2
  have n5 := h.1
  have key : ∀ d c : Nat, q.den = d → d * c = 6 → c ≤ 6 → Ov (b * 6 ^ (0 + 1)) 84 q := fun d c e1 e2 hc => by
    refine ⟨q.num * (c : Int) * b, ?_, ?_⟩
    · have e3 : ((6 : Int) ^ (0 + 1)) = (d : Int) * (c : Int) := by
        rw [Int.pow_succ, Int.pow_zero, Int.one_mul]
        exact_mod_cast e2.symm
      rw [Rat.intCast_mul, Rat.intCast_mul, Rat.intCast_mul, e3, Rat.intCast_mul, RQ.nd q, e1]
      generalize (((d : Nat) : Int) : Rat) = x
      generalize (((c : Nat) : Int) : Rat) = y
      grind
    · have b1 : Bt 5 (q.num * (c : Int)) := by
        show (q.num * (c : Int)).natAbs < 2 ^ 5
        rw [Int.natAbs_mul, Int.natAbs_natCast]
        have := Nat.mul_le_mul n5 hc
        omega
      exact (b1.mul b0.2).up (by decide)
  have : q.den = 1 ∨ q.den = 2 ∨ q.den = 3 := by omega
  rcases this with e | e | e
  · exact key 1 6 e rfl (by decide)
  · exact key 2 3 e rfl (by decide)
  · exact key 3 2 e rfl (by decide)
theorem int_ov {z b : Int} {t : Nat} (b0 : b ≠ 0) (h : Bt t z) (l : t + 3 ≤ 84) : Ov (b * 6 ^ (0 + 1)) 84 ((z : Rat) / (b : Rat)) := by
  refine ⟨z * 6, ?_, (h.mul bt6).up l⟩
  rw [show (6 : Int) ^ (0 + 1) = 6 from rfl, Rat.intCast_mul, Rat.intCast_mul, ← Rat.mul_assoc, Rat.div_mul_cancel (DT.ic b0)]
theorem m0_sz {p : Pl} (h : PlB p) : Szm (m0 p) p.b 0 84 :=
  ⟨fun j hj => int_ov (h.b.h 0 (by omega)).1 (h.s j hj) (by decide), fun j hj => int_ov (h.b.h _ (show p.k + 1 < p.k + 2 by omega)).1 (h.e j hj) (by decide), fun x hx i hi j hj => int_ov (h.b.h (x + 1) (show x + 1 < p.k + 2 by have : x < p.k := hx; omega)).1 (h.t x hx i hi j hj) (by decide)⟩
theorem nw_sz {m m' : Mc} {b : Nat → Int} (z : Szm m b 0 84) (hb : Bots m.k b) (ek : m'.k = m.k) (en : m'.n = m.n + 1) (hs : ∀ j, j < m.n → m'.s j = m.s j) (ht : ∀ x, x < m.k → ∀ i, i < m.n → ∀ j, j < m.n → m'.t x i j = m.t x i j) (he : ∀ j, j < m.n → m'.e j = m.e j) (w : Nw m m') : Szm m' b 0 84 := by
  refine ⟨fun j hj => ?_, fun j hj => ?_, fun x hx i hi j hj => ?_⟩
  · by_cases e : j = m.n
    · rw [e]; exact sml_ov w.s (hb.h 0 (by omega))
    · rw [hs j (by omega)]; exact z.s j (by omega)
  · rw [ek]
    by_cases e : j = m.n
    · rw [e]; exact sml_ov w.e (hb.h _ (by omega))
    · rw [he j (by omega)]; exact z.e j (by omega)
  · rw [ek] at hx
    have bx := hb.h (x + 1) (by omega)
    by_cases e : j = m.n
    · rw [e]; exact sml_ov (w.r x hx i (by omega)) bx
    · by_cases e2 : i = m.n
      · rw [e2]; exact sml_ov (w.l x hx j (by omega)) bx
      · rw [ht x hx i (by omega) j (by omega)]; exact z.t x hx i (by omega) j (by omega)
/-- the machine m is alike to the plain one, l changes of its states away -/
structure Alk (p : Pl) (m : Mc) (l : Nat) : Prop where
  k : m.k = p.k
  z : Szm m p.b l (84 + 12 * l)
  nb : ∀ w, Ltk p.k w → nbr m w = nbr (m0 p) w
theorem alk0 {p : Pl} (h : PlB p) : Alk p (m0 p) 0 := ⟨rfl, m0_sz h, fun _ _ => rfl⟩
theorem Alk.usn {p : Pl} {m m' : Mc} (a : Alk p m 0) (h : PlB p) (u : Usn m m') (w : Nw m m') : Alk p m' 0 :=
  ⟨by rw [u.k, a.k], nw_sz a.z (by rw [a.k]; exact h.b) u.k u.n u.s u.t u.e w, fun v hv => by rw [usn_nbr u (by rw [a.k]; exact hv), a.nb v hv]⟩
theorem Alk.unr {p : Pl} {m m' : Mc} (a : Alk p m 0) (h : PlB p) (u : Unr m m') (w : Nw m m') : Alk p m' 0 :=
  ⟨by rw [u.k, a.k], nw_sz a.z (by rw [a.k]; exact h.b) u.k u.n u.s u.t u.e w, fun v hv => by rw [unr_nbr u (by rw [a.k]; exact hv), a.nb v hv]⟩
theorem Alk.chg {p : Pl} {m : Mc} {l : Nat} (a : Alk p m l) {kd : Knd} {i j : Nat} {f : Rat} (hi : i < m.n) (hj : j < m.n) (hf : Fac f) (ne : kd = .add → i ≠ j) : Alk p (chg kd i j f m) (l + 1) :=
  ⟨a.k, chg_sz a.z hi hj hf, fun v hv => by rw [chg_nbr hi hj hf.1 ne, a.nb v hv]⟩
def spAlk (C : Addr) : Sp := fun vs H Q _ => ∃ (a cl pq : Addr) (p : Pl) (most : Int), vs = [.ref a, .ref pq, .int most] ∧ FeedAt H a cl ∧ At C Emp H (.ref pq) (plD p) ∧ PlB p ∧ most ≤ 14 ∧
  ∀ (r : Addr) (H' : Hp) (O : Addr → Prop) (m : Mc) (l : Nat), Fr (K1 a) H H' → FeedAt H' a cl → (∀ b, O b → H b = none) → Pe H' O r m → Alk p m l → l ≤ 4 → m.n ≤ 14 → Q (.ref r) H'
section
variable {P : Program} {w : World} {K : PySem.W.Frag} {mg : Str → Option Value} {base : Heap}
theorem ok_alk {f fP fN fU fR fC fD C : Addr} {fd dP dN dU dR dC dD : FuncData} (F : Fun K "_law_alike" "_law_alike" sAlk f fd) (T : TxtL mg) (cPt : CalN P w K mg base "_law_parts" 35 ["plain"] (spPt C) fP dP) (cNx : CalN P w K mg base "_law_next" 1 ["tape", "limit"] spDraw fN dN)
    (cUs : CalN P w K mg base "_law_unseen" 35 ["parts", "tape"] spUs fU dU) (cUr : CalN P w K mg base "_law_unreached" 35 ["parts", "tape"] spUr fR dR) (cCh : CalN P w K mg base "_law_change" 36 ["parts", "deed"] spCh fC dC) (cDe : CalN P w K mg base "_law_deed" 34 ["tape", "size"] spDe fD dD) :
    FnOk P w K mg base CX0 37 f fd ["tape", "plain", "most"] (spAlk C) := by
  refine F.ok scAlk (fun vs H Q E h => ?_) (fun cdv A outer s H vs Q E hr h => ?_)
  · obtain ⟨a, cl, pq, p, most, rfl, _⟩ := h
    rfl
  · obtain ⟨a, cl, pq, p, most, rfl, hF, hp, pb, hm, kk⟩ := h
    have hr36 : Room 36 _ := hr
    have hr35 : Room 35 _ := hr.mono (by decide)
    have hr34 : Room 34 _ := hr.mono (by decide)
    have hr1 : Room 1 _ := hr.mono (by decide)
    have k4 := pb.k4
    have n12 := pb.n12
    refine ⟨_, pss_cons (ps_set (i := 3) scAlk.nd rfl (.inl rfl) (pe_call cPt.G hr35 rfl cPt.m cPt.kp cPt.b .nil pass0 (pa_cons (pv 1) pa_nil)))
      (pss_cons (ps_for PassesOwn.never rfl (pi_range1 (by rfl) T.range (pa_cons (pe_call cNx.G hr1 rfl cNx.m cNx.kp cNx.b .nil pass0 (pa_cons (pv 0) (pa_cons pe_int pa_nil))) pa_nil)) (pg_name (i := 4) scAlk.nd rfl (.inl rfl))
        (pss_one (ps_if (pt_cmpR op_lt (pe_callB call_len_seq (by rfl) T.len PySem.boot_len (pa_cons (pe_ix ix_list (pv 3) pe_int (fun _ _ => rfl)) pa_nil)) (pv 2) (nomark _))
          (pss_one (ps_if (pt_cmpR op_eq (pe_call cNx.G hr1 rfl cNx.m cNx.kp cNx.b .nil pass0 (pa_cons (pv 0) (pa_cons pe_int pa_nil))) pe_int (nomark _))
            (pss_one (ps_expr (pe_call cUs.G hr35 rfl cUs.m cUs.kp cUs.b .nil pass0 (pa_cons (pv 3) (pa_cons (pv 0) pa_nil)))))
            (pss_one (ps_expr (pe_call cUr.G hr35 rfl cUr.m cUr.kp cUr.b .nil pass0 (pa_cons (pv 3) (pa_cons (pv 0) pa_nil)))))))
          pss_nil)))
      (pss_cons (ps_for PassesOwn.never rfl (pi_range1 (by rfl) T.range (pa_cons (pe_call cNx.G hr1 rfl cNx.m cNx.kp cNx.b .nil pass0 (pa_cons (pv 0) (pa_cons pe_int pa_nil))) pa_nil)) (pg_name (i := 4) scAlk.nd rfl (.inl rfl))
        (pss_one (ps_if (pt_cmpR op_gt (pe_callB call_len_seq (by rfl) T.len PySem.boot_len (pa_cons (pe_ix ix_list (pv 3) pe_int (fun _ _ => rfl)) pa_nil)) pe_int (nomark _))
          (pss_one (ps_expr (pe_call cCh.G hr36 rfl cCh.m cCh.kp cCh.b .nil pass0 (pa_cons (pv 3) (pa_cons (pe_call cDe.G hr34 rfl cDe.m cDe.kp cDe.b .nil pass0 (pa_cons (pv 0) (pa_cons (pe_callB call_len_seq (by rfl) T.len PySem.boot_len (pa_cons (pe_ix ix_list (pv 3) pe_int (fun _ _ => rfl)) pa_nil)) pa_nil))) pa_nil)))))
          pss_nil)))
      (pss_one (ps_ret (pv 3))))), ?_⟩
    refine ⟨_, rfl, pq, p, rfl, hp, pb, fun q H1 O0 s1 nw0 pe0 => ?_⟩
    have dis0 : ∀ {O : Addr → Prop}, (∀ b, O b → H b = none) → ∀ b, O b → b ≠ a ∧ b ≠ cl := fun nw b z => ⟨fun e => hF.there (by rw [← e]; exact nw b z), fun e => by obtain ⟨ys, h⟩ := hF.lst2; rw [← e, nw b z] at h; cases h⟩
    refine ⟨_, rfl, a, cl, 3, rfl, hF.same s1, by decide, by decide, fun y H2 y0 y1 f2 b2 => ?_⟩
    obtain ⟨y, rfl⟩ : ∃ y' : Nat, y = (y' : Int) := ⟨y.toNat, by omega⟩
    have g2 : Fr (K1 a) H H2 := (Same.fr s1).trans (Fr.but b2 (hF.same s1) f2)
    have pe2 := pe0.fr (Fr.but b2 (hF.same s1) f2) fun b z e => (dis0 nw0 b z).1 e
    refine ⟨y, rfl, by omega, by omega, for_range (n := y) (fun i σ G => ∃ o4 O m, σ = [some (.ref a), some (.ref pq), some (.int most), some (.ref q), o4] ∧ Fr (K1 a) H G ∧ FeedAt G a cl ∧ (∀ b, O b → H b = none) ∧ Pe G O q m ∧ Alk p m 0 ∧ m.n ≤ 14) ⟨none, O0, m0 p, rfl, g2, f2, nw0, pe2, alk0 pb, by show p.n ≤ 14; omega⟩ ?_ ?_⟩
    · rintro i σ G hi ⟨o4, O, m, rfl, g, fe, nw, pe, al, mn⟩
      obtain ⟨ps, _, _, xs, hq, hx, lx⟩ := pe.len
      refine ⟨_, rfl, q, _, 1, _, rfl, rfl, SqL.of hq, rfl, ps, xs, rfl, .inl (SqL.of hx), _, rfl, _, _, rfl, rfl, _, rfl, ite2 (fun lt => ?_) (fun _ => ⟨_, O, m, rfl, g, fe, nw, pe, al, mn⟩)⟩
      have lt : m.n + 1 ≤ 14 := by have := of_decide_eq_true lt; omega
      refine ⟨_, rfl, a, cl, 2, rfl, fe, by decide, by decide, fun z G2 _ _ f3 b3 => ?_⟩
      have g3 := Fr.but b3 fe f3
      have pe3 := pe.fr g3 fun b z e => (dis0 nw b z).1 e
      have tod : ∀ {G3 : Hp}, Fr (Ta O a) G2 G3 → Fr (K1 a) H G3 := fun f4 => Fr.dropS (W := fun b => Ta O a b ∨ K1 a b) (((g.trans g3).more fun _ z => .inr z).trans (f4.more fun _ z => .inl z)) fun b z => by
        rcases z with (z | z) | z
        · exact .inr (nw b z)
        · exact .inl z
        · exact .inl z
      have nwd : ∀ {O' : Addr → Prop}, (∀ b, O' b → O b ∨ G2 b = none) → ∀ b, O' b → H b = none := fun sub b z => (sub b z).elim (nw b) fun e => (g.trans g3).k.free e
      refine ⟨rfl, _, rfl, ite2 (fun _ => ?_) (fun _ => ?_)⟩
      · refine ⟨_, rfl, _, rfl, O, q, a, cl, m, rfl, pe3, f3, dis0 nw, by omega, by rw [al.k]; exact k4, fun G3 O' m' sub f4 fe4 pe4 us nw4 => ?_⟩
        exact ⟨_, O', m', rfl, tod f4, fe4, nwd sub, pe4, al.usn pb us nw4, by rw [us.n]; exact lt⟩
      · refine ⟨_, rfl, _, rfl, O, q, a, cl, m, rfl, pe3, f3, dis0 nw, by omega, by rw [al.k]; exact k4, fun G3 O' m' sub f4 fe4 pe4 us nw4 => ?_⟩
        exact ⟨_, O', m', rfl, tod f4, fe4, nwd sub, pe4, al.unr pb us nw4, by rw [us.n]; exact lt⟩
    rintro σ G ⟨o4, O, m, rfl, g, fe, nw, pe, al, mn⟩
    refine ⟨_, rfl, a, cl, 5, rfl, fe, by decide, by decide, fun y G2 y0 y1 f2 b2 => ?_⟩
    obtain ⟨y, rfl⟩ : ∃ y' : Nat, y = (y' : Int) := ⟨y.toNat, by omega⟩
    have g2 := Fr.but b2 fe f2
    refine ⟨y, rfl, by omega, by omega, for_range (n := y) (fun i σ G => ∃ o4 O m l, σ = [some (.ref a), some (.ref pq), some (.int most), some (.ref q), o4] ∧ Fr (K1 a) H G ∧ FeedAt G a cl ∧ (∀ b, O b → H b = none) ∧ Pe G O q m ∧ Alk p m l ∧ l ≤ i ∧ m.n ≤ 14) ⟨o4, O, m, 0, rfl, g.trans g2, f2, nw, pe.fr g2 fun b z e => (dis0 nw b z).1 e, al, Nat.le_refl _, mn⟩ ?_ ?_⟩
    · rintro i σ G hi ⟨o4, O, m, l, rfl, g, fe, nw, pe, al, li, mn⟩
      obtain ⟨ps, _, _, xs, hq, hx, lx⟩ := pe.len
      refine ⟨_, rfl, q, _, 1, _, rfl, rfl, SqL.of hq, rfl, ps, xs, rfl, .inl (SqL.of hx), _, _, rfl, rfl, _, rfl, ite2 (fun gt => ?_) (fun _ => ⟨_, O, m, l, rfl, g, fe, nw, pe, al, by omega, mn⟩)⟩
      have gt : 0 < m.n := by have := of_decide_eq_true gt; omega
      refine ⟨_, rfl, _, rfl, _, rfl, q, _, 1, _, rfl, rfl, SqL.of hq, rfl, ps, xs, rfl, .inl (SqL.of hx), a, cl, m.n, congrArg (fun z : Nat => [V.ref a, V.int (z : Int)]) lx, fe, gt, by omega, fun dd kd x y f G2 fe2 b2 hd hx hy ne fa => ?_⟩
      have g2 := Fr.but b2 fe fe2
      have pe2 := pe.fr g2 fun b z e => (dis0 nw b z).1 e
      refine ⟨O, q, dd, m, kd, x, y, f, rfl, pe2, hd, hx, hy, by omega, by rw [al.k]; exact k4, chh_of al.z (by rw [al.k]; exact pb.b) hx hy fa (by omega) (by omega), fa, fun G3 O' sub f3 pe3 => ?_⟩
      have nO : ∀ b, O b → b ≠ a ∧ b ≠ cl := dis0 nw
      refine ⟨_, O', _, l + 1, rfl, ?_, fe2.fr f3 (fun z => (nO a z).1 rfl) (fun z => (nO cl z).2 rfl), fun b z => (sub b z).elim (nw b) fun e => (g.trans g2).k.free e, pe3, al.chg hx hy fa ne, by omega, mn⟩
      exact Fr.dropS (W := fun b => O b ∨ K1 a b) (((g.trans g2).more fun _ z => .inr z).trans (f3.more fun _ z => .inl z)) fun b z => z.elim (fun z => .inr (nw b z)) .inl
    rintro σ G ⟨o4, O, m, l, rfl, g, fe, nw, pe, al, li, mn⟩
    exact ⟨_, rfl, kk q G O m l g fe nw pe al (by omega) mn⟩
end
end RX

set_option Elab.async false
set_option maxRecDepth 100000
namespace RX
open PySem L2 LX VA VM VN
open RQ (Hg Bt)
/-! ### rows and columns of ints -/
abbrev sDt : Stmt := topS 44
theorem scDt : FnScope ["row", "other", "k"] ["row", "other"] (defScope sDt) := ⟨rfl, rfl, rfl, by decide +kernel, rfl, by decide +kernel, by decide +kernel⟩
abbrev sAh : Stmt := topS 45
theorem scAh : FnScope ["row", "step", "found", "at", "number", "k"] ["row", "step"] (defScope sAh) := ⟨rfl, rfl, rfl, by decide +kernel, rfl, by decide +kernel, by decide +kernel⟩
abbrev sBh : Stmt := topS 46
theorem scBh : FnScope ["step", "column", "row"] ["step", "column"] (defScope sBh) := ⟨rfl, rfl, rfl, by decide +kernel, rfl, by decide +kernel, by decide +kernel⟩
def ahd (n : Nat) (z : Nat → Int) (t : Nat → Nat → Int) : Nat → Int := fun j => wsum z (fun i => t i j) n
def bhd (n : Nat) (t : Nat → Nat → Int) (c : Nat → Int) : Nat → Int := fun i => wsum (t i) c n
/-- n rows of n ints at p -/
structure StpAt (H : Hp) (p : Addr) (n : Nat) (t : Nat → Nat → Int) : Prop where
  ex : ∃ ra : Nat → Addr, H p = some (.lst ((List.range n).map fun i => V.ref (ra i))) ∧ ∀ i, i < n → H (ra i) = some (.lst (iV n (t i)))
theorem StpAt.same {H H' : Hp} {p : Addr} {n : Nat} {t : Nat → Nat → Int} (h : StpAt H p n t) (s : Same H H') : StpAt H' p n t := let ⟨ra, a, b⟩ := h.ex; ⟨ra, s _ _ a, fun i hi => s _ _ (b i hi)⟩
def spDt : Sp := fun vs H Q _ => ∃ (p q : Addr) (n : Nat) (z y : Nat → Int), vs = [.ref p, .ref q] ∧ H p = some (.lst (iV n z)) ∧ H q = some (.lst (iV n y)) ∧ n ≤ 1000 ∧ (∀ j, j < n → Hg (z j) ∧ Hg (y j)) ∧ ∀ H' : Hp, Same H H' → Q (.int (wsum z y n)) H'
def spAh : Sp := fun vs H Q _ => ∃ (p q : Addr) (n a b : Nat) (z : Nat → Int) (t : Nat → Nat → Int), vs = [.ref p, .ref q] ∧ H p = some (.lst (iV n z)) ∧ StpAt H q n t ∧ n ≤ 1000 ∧ (∀ j, j < n → Bt a (z j)) ∧ (∀ i, i < n → ∀ j, j < n → Bt b (t i j)) ∧ a ≤ 1000000 ∧ b ≤ 1000000 ∧ ∀ (r : Addr) (H' : Hp), Same H H' → H r = none → H' r = some (.lst (iV n (ahd n z t))) → Q (.ref r) H'
def spBh : Sp := fun vs H Q _ => ∃ (p q : Addr) (n a b : Nat) (z : Nat → Int) (t : Nat → Nat → Int), vs = [.ref q, .ref p] ∧ H p = some (.lst (iV n z)) ∧ StpAt H q n t ∧ n ≤ 1000 ∧ (∀ j, j < n → Bt a (z j)) ∧ (∀ i, i < n → ∀ j, j < n → Bt b (t i j)) ∧ a ≤ 1000000 ∧ b ≤ 1000000 ∧ ∀ (r : Addr) (H' : Hp), Same H H' → H r = none → H' r = some (.lst (iV n (bhd n t z))) → Q (.ref r) H'
section
variable {P : Program} {w : World} {K : PySem.W.Frag} {mg : Str → Option Value} {base : Heap}
theorem ok_dt {f : Addr} {fd : FuncData} (F : Fun K "_law_dot" "_law_dot" sDt f fd) (T : TxtL mg) (msum : mg "sum" = none) : FnOk P w K mg base CX0 1 f fd ["row", "other"] spDt := by
  refine F.ok scDt (fun vs H Q E h => ?_) (fun cdv A outer s H vs Q E hr h => ?_)
  · obtain ⟨p, q, n, z, y, rfl, _⟩ := h
    rfl
  · obtain ⟨p, q, n, z, y, rfl, hp, hq, hn, g, kk⟩ := h
    refine ⟨_, pss_one (ps_ret (pe_callB (cr_sum rfl) (by rfl) msum (by decide +kernel) (pa_cons (pe_lc (own := [("k", 2)]) (g := gName 2) (tt := tYes) rfl scDt.nd (pi_range1 (by rfl) T.range (pa_cons (pe_callB call_len_seq (by rfl) T.len PySem.boot_len (pa_cons (pv 0) pa_nil)) pa_nil)) (blkOk_by (N := ["row", "other", "k"]) (sc := (defScope sDt)) (by decide +kernel)) (fun _ _ _ _ _ => (pg_name (i := 2) scDt.nd rfl (.inl rfl))) (fun _ _ _ _ _ => pts_nil) (fun _ _ _ _ _ => (pe_op RQ.op_mulH (pe_ix (show IxR _ (rIxL K) from ix_list) (pv 0) (pv 2) (fun _ _ => rfl)) (pe_ix (show IxR _ (rIxL K) from ix_list) (pv 1) (pv 2) (fun _ _ => rfl))))) pa_nil))), ?_⟩
    refine ⟨_, rfl, p, _, rfl, .inl (SqL.of hp), n, by rw [iV_len], by omega, by omega, fun D nD => ?_⟩
    refine lc_it (walk_range (lo := 0) (n := n)) (fun i G => G D = some (.lst (iV i fun j => z j * y j)) ∧ Same H G) ⟨upd_same, Same.upd nD⟩ (fun _ _ _ _ => trivial) ?_ ?_
    · rintro i x G1 G2 hi ⟨hD, s1⟩ ⟨rfl, rfl⟩
      refine ⟨rfl, _, rfl, _, rfl, p, _, _, _, rfl, rfl, SqL.of (s1 _ _ hp), at_of (Int.zero_add _) (iV_get hi), _, rfl, _, rfl, q, _, _, _, rfl, rfl, SqL.of (s1 _ _ hq), at_of (Int.zero_add _) (iV_get hi), _, _, rfl, rfl, g i hi, _, hD, ?_, ?_, fun b o hc => ?_⟩
      · rw [iV_len]; exact small1000 (by omega)
      · rw [upd_same, iV_succ]
      · rw [upd_ne (ne_of_none hc nD)]
        exact s1 _ _ hc
    · rintro G ⟨hD, s1⟩
      refine ⟨D, (List.range n).map fun j => z j * y j, rfl, ?_, ?_⟩
      · rw [List.map_map]
        exact SqL.of hD
      · rw [wsum_list]
        exact kk G s1
theorem iV_congr {n : Nat} {z y : Nat → Int} (h : ∀ j, j < n → z j = y j) : iV n z = iV n y := List.map_congr_left fun j hj => by rw [h j (List.mem_range.mp hj)]
theorem ok_ah {f : Addr} {fd : FuncData} (F : Fun K "_law_ahead" "_law_ahead" sAh f fd) (T : TxtL mg) : FnOk P w K mg base CX0 2 f fd ["row", "step"] spAh := by
  refine F.ok scAh (fun vs H Q E h => ?_) (fun cdv A outer s H vs Q E hr h => ?_)
  · obtain ⟨p, q, n, a, b, z, t, rfl, _⟩ := h
    rfl
  · obtain ⟨p, q, n, a, b, z, t, rfl, hp, ⟨ra, hq, hra⟩, hn, bz, bt, la, lb, kk⟩ := h
    refine ⟨_, pss_cons (ps_set (i := 2) scAh.nd rfl (.inr rfl) (pe_lc (own := [("number", 4)]) (g := gName 4) (tt := tYes) rfl scAh.nd (pi_list (pv 0)) (blkOk_by (N := ["row", "step", "found", "at", "number", "k"]) (sc := (defScope sAh)) (by decide +kernel)) (fun _ _ _ _ _ => (pg_name (i := 4) scAh.nd rfl (.inl rfl))) (fun _ _ _ _ _ => pts_nil) (fun _ _ _ _ _ => pe_int)))
      (pss_cons (ps_for PassesOwn.never rfl (pi_range1 (by rfl) T.range (pa_cons (pe_callB call_len_seq (by rfl) T.len PySem.boot_len (pa_cons (pv 0) pa_nil)) pa_nil)) (pg_name (i := 3) scAh.nd rfl (.inr rfl))
        (pss_one (ps_if (pt_cmpR op_ne (pe_ix ix_list (pv 0) (pv 3) (fun _ _ => rfl)) pe_int (nomark _))
          (pss_one (ps_set (i := 2) scAh.nd rfl (.inr rfl) (pe_lc (own := [("k", 5)]) (g := gName 5) (tt := tYes) rfl scAh.nd (pi_range1 (by rfl) T.range (pa_cons (pe_callB call_len_seq (by rfl) T.len PySem.boot_len (pa_cons (pv 0) pa_nil)) pa_nil)) (blkOk_by (N := ["row", "step", "found", "at", "number", "k"]) (sc := (defScope sAh)) (by decide +kernel)) (fun _ _ _ _ _ => (pg_name (i := 5) scAh.nd rfl (.inl rfl))) (fun _ _ _ _ _ => pts_nil) (fun _ _ _ _ _ => (pe_op op_add (pe_ix (show IxR _ (rIxL K) from ix_list) (pv 2) (pv 5) (fun _ _ => rfl)) (pe_op RQ.op_mulH (pe_ix (show IxR _ (rIxL K) from ix_list) (pv 0) (pv 3) (fun _ _ => rfl)) (pe_ix (show IxR _ (rIxL K) from ix_list) (pe_ix (show IxR _ (rIxL K) from ix_list) (pv 1) (pv 3) (fun _ _ => rfl)) (pv 5) (fun _ _ => rfl))))))))
          pss_nil)))
      (pss_one (ps_ret (pv 2)))), ?_⟩
    refine ⟨_, rfl, p, rfl, ⟨_, SqL.of hp⟩, fun D nD => ?_⟩
    refine lc_it (walk_list (K := K) (a := p) (xs := iV n z)) (fun i G => G D = some (.lst (iV i fun _ => 0)) ∧ Same H G) ⟨upd_same, Same.upd nD⟩ (fun i G _ h => SqL.of (h.2 _ _ hp)) ?_ ?_
    · rintro i x G1 G2 hi ⟨hD, s1⟩ ⟨rfl, hx⟩
      rw [iV_len] at hi
      refine ⟨rfl, _, hD, ?_, ?_, fun b o hc => ?_⟩
      · rw [iV_len]; exact small1000 (by omega)
      · rw [upd_same, iV_succ]
      · rw [upd_ne (ne_of_none hc nD)]
        exact s1 _ _ hc
    rintro G ⟨hD, s1⟩
    rw [iV_len] at hD
    refine ⟨_, rfl, p, _, rfl, .inl (SqL.of (s1 _ _ hp)), n, by rw [iV_len], by omega, by omega, for_range (n := n) (fun r σ G => ∃ D o3, σ = [some (.ref p), some (.ref q), some (.ref D), o3, none, none] ∧ H D = none ∧ G D = some (.lst (iV n fun j => wsum z (fun i => t i j) r)) ∧ Same H G) ⟨D, none, rfl, nD, hD, s1⟩ ?_ ?_⟩
    · rintro r σ G1 hr ⟨D1, o3, rfl, nD1, hD1, s2⟩
      refine ⟨_, rfl, _, rfl, p, _, _, _, rfl, rfl, SqL.of (s2 _ _ hp), at_of (Int.zero_add _) (iV_get hr), rfl, _, rfl, ite2 (fun _ => ?_) (fun e => ?_)⟩
      · refine ⟨_, rfl, p, _, rfl, .inl (SqL.of (s2 _ _ hp)), n, by rw [iV_len], by omega, by omega, fun E nE => ?_⟩
        refine lc_it (walk_range (lo := 0) (n := n)) (fun i G => G E = some (.lst (iV i fun j => wsum z (fun i => t i j) (r + 1))) ∧ Same G1 G) ⟨upd_same, Same.upd nE⟩ (fun _ _ _ _ => trivial) ?_ ?_
        · rintro i x G2 G3 hi ⟨hE, s3⟩ ⟨rfl, rfl⟩
          have b1 : Bt b (t r i) := bt r hr i hi
          refine ⟨rfl, _, rfl, _, rfl, D1, _, _, _, rfl, rfl, SqL.of (s3 _ _ hD1), at_of (Int.zero_add _) (iV_get hi), _, rfl, _, rfl, p, _, _, _, rfl, rfl, SqL.of (s3 _ _ (s2 _ _ hp)), at_of (Int.zero_add _) (iV_get hr), _, rfl, _, rfl, q, _, _, _, rfl, rfl, SqL.of (s3 _ _ (s2 _ _ hq)), at_of (Int.zero_add _) (TabR.get hr), _, rfl, ra r, _, _, _, rfl, rfl, SqL.of (s3 _ _ (s2 _ _ (hra r hr))), at_of (Int.zero_add _) (iV_get hi), _, _, rfl, rfl, ⟨(bz r hr).hg (by omega), b1.hg (by omega)⟩, _, _, rfl, rfl, _, hE, ?_, ?_, fun b o hc => ?_⟩
          · rw [iV_len]; exact small1000 (by omega)
          · rw [upd_same, iV_succ]
            rfl
          · rw [upd_ne (ne_of_none hc nE)]
            exact s3 _ _ hc
        · rintro G2 ⟨hE, s3⟩
          exact ⟨E, _, rfl, s2.free nE, hE, s2.trans s3⟩
      · have z0 : z r = 0 := Classical.byContradiction fun ne => e (by
          show (!decide (V.int (z r) = V.int 0)) = true
          rw [decide_eq_false (fun h => ne (by injection h))]
          rfl)
        refine ⟨D1, _, rfl, nD1, ?_, s2⟩
        rw [hD1]
        congr 2
        refine iV_congr fun j _ => ?_
        show wsum z _ r = wsum z _ r + z r * t r j
        rw [z0, Int.zero_mul, Int.add_zero]
    · rintro σ G1 ⟨D1, o3, rfl, nD1, hD1, s2⟩
      exact ⟨_, rfl, kk D1 G1 s2 nD1 hD1⟩
theorem ok_bh {f fD : Addr} {fd dD : FuncData} (F : Fun K "_law_behind" "_law_behind" sBh f fd) (cDt : CalN P w K mg base "_law_dot" 1 ["row", "other"] spDt fD dD) : FnOk P w K mg base CX0 2 f fd ["step", "column"] spBh := by
  refine F.ok scBh (fun vs H Q E h => ?_) (fun cdv A outer s H vs Q E hr h => ?_)
  · obtain ⟨p, q, n, a, b, z, t, rfl, _⟩ := h
    rfl
  · obtain ⟨p, q, n, a, b, z, t, rfl, hp, ⟨ra, hq, hra⟩, hn, bz, bt, la, lb, kk⟩ := h
    have hr1 : Room 1 _ := hr
    refine ⟨_, pss_one (ps_ret (pe_lc (own := [("row", 2)]) (g := gName 2) (tt := tYes) rfl scBh.nd (pi_list (pv 0)) (blkOk_by (N := ["step", "column", "row"]) (sc := (defScope sBh)) (by decide +kernel)) (fun _ _ _ _ _ => (pg_name (i := 2) scBh.nd rfl (.inl rfl))) (fun _ _ _ _ _ => pts_nil) (fun _ _ _ _ _ => (pe_call cDt.G hr1 rfl cDt.m cDt.kp cDt.b .nil pass0 (pa_cons (pv 2) (pa_cons (pv 1) pa_nil)))))), ?_⟩
    refine ⟨_, rfl, q, rfl, ⟨_, SqL.of hq⟩, fun D nD => ?_⟩
    refine lc_it (walk_list (K := K) (a := q) (xs := (List.range n).map fun i => V.ref (ra i))) (fun i G => G D = some (.lst (iV i (bhd n t z))) ∧ Same H G) ⟨upd_same, Same.upd nD⟩ (fun i G _ h => SqL.of (h.2 _ _ hq)) ?_ ?_
    · rintro i x G1 G2 hi ⟨hD, s1⟩ ⟨rfl, hx⟩
      rw [List.length_map, List.length_range] at hi
      rw [TabR.get hi] at hx
      obtain rfl := Option.some.inj hx
      refine ⟨rfl, _, rfl, _, rfl, ra i, p, n, t i, z, rfl, s1 _ _ (hra i hi), s1 _ _ hp, hn, fun j hj => ⟨(bt i hi j hj).hg (by omega), (bz j hj).hg (by omega)⟩, fun G3 s3 => ⟨_, s3 _ _ hD, ?_, ?_, fun b o hc => ?_⟩⟩
      · rw [iV_len]; exact small1000 (by omega)
      · rw [upd_same, iV_succ]
        rfl
      · rw [upd_ne (ne_of_none hc nD)]
        exact s3 _ _ (s1 _ _ hc)
    · rintro G ⟨hD, s1⟩
      rw [List.length_map, List.length_range] at hD
      exact kk D G s1 nD hD
end
end RX

set_option Elab.async false
set_option linter.all false
set_option maxRecDepth 100000
set_option maxHeartbeats 1000000
/-! x[::-1] of a string -/
namespace LX
open PySem PySem.Spec PyProof.Rows L2
theorem picks_back (z : Str) : ((Builtin.Str.strSliceIndices none none (-1) z.length).filterMap (z.cps[·]?)).toArray = z.cps.toList.reverse.toArray := by
  show ((sliceRange ((z.cps.size : Int) - 1) (-1) (-1)).filterMap (z.cps[·]?)).toArray = _
  rw [PySem.W.krv_sliceRange, PySem.W.krv_range, List.filterMap_reverse, PySem.W.krv_all]
def tBackS (te : TE) : TE := fun σ H Q => te σ H fun x H1 => ∃ z : Str, x = .str z ∧ z.length ≤ sizeLine ∧ Q (.str ⟨z.cps.toList.reverse.toArray⟩) H1
theorem pe_backS {X : Cx} {e : Expr} {te : TE} {k : Nat} {p1 p2 p3 pos : Pos} (he : PE X e te) : PE X (.Subscript e (.Slice none none (some (.UnaryOp .USub (.Constant (.int 1) k p1) p2)) p3) pos) (tBackS te) := by
  have step : PO X (some (.UnaryOp .USub (.Constant (.int 1) k p1) p2)) (tPart (tUn (rU fun i => .int (-i)) (tC (.int 1)))) := po_some (pe_un un_neg pe_int)
  constructor
  intro pins s σ H Q I told
  refine Subscript_ (thn (he.run pins s σ H _ I told) ?_)
  rintro v s1 ⟨x, H1, I1, rx, z, rfl, short, q⟩
  obtain ⟨t, rfl⟩ := rx
  refine wpAny_Slice (thn (po_none.run pins s1 σ H1 (fun o H2 => o = none ∧ H2 = H1) I1 ⟨rfl, rfl⟩) ?_)
  rintro vl s2 ⟨l, H2, I2, pl, rfl, rfl⟩
  refine thn (po_none.run pins s2 σ H2 (fun o H3 => o = none ∧ H3 = H2) I2 ⟨rfl, rfl⟩) ?_
  rintro vu s3 ⟨u, H3, I3, pu, rfl, rfl⟩
  refine thn (step.run pins s3 σ H3 (fun o H4 => o = some (-1) ∧ H4 = H3) I3 ⟨1, rfl, -1, rfl, rfl, rfl⟩) ?_
  rintro vs s4 ⟨o, H4, I4, ps, rfl, rfl⟩
  obtain ⟨a, rfl, ea⟩ := IsPart.raw pl
  obtain ⟨b, rfl, eb⟩ := IsPart.raw pu
  obtain ⟨c, rfl, ec⟩ := IsPart.raw ps
  have I5 : Inv X pins σ H4 { s4 with heap := s4.heap.push { cls := .type "slice", data := .fields #[partValue a, partValue b, partValue c] } } := I4.kept (t' := s4.toks) fun _ _ y => Heap.get?_push_of_some _ y
  show wpAny (model X.prog X.w) X.A (subscriptTail e (.Slice none none (some (.UnaryOp .USub (.Constant (.int 1) k p1) p2)) p3) (.str z t) (.ref s4.heap.objs.size)) (EP X pins σ Q) X.xe { s4 with heap := s4.heap.push { cls := .type "slice", data := .fields #[partValue a, partValue b, partValue c] } }
  refine tail_any (ops := [.ref s4.heap.objs.size, .str z t]) (typeIs_str _ z t) F.slot_str_getitem.lookup ?_ (by with_unfolding_all rfl)
  refine wpAny_getItem_str_slice (l := a) (u := b) (st := c) (Heap.IsSliceOf.new _ _ _ _) (by rw [ec]; rfl) ?_
  unfold sliceMade slicePicked
  rw [ea, eb, ec]
  show Made.post (if ((-1 : Int) == 1 && (Builtin.Str.strSliceIndices none none (-1) z.length).length == z.length) = true then Made.val (.str z t) else Made.str ⟨((Builtin.Str.strSliceIndices none none (-1) z.length).filterMap (z.cps[·]?)).toArray⟩) (EP X pins σ Q) _
  have no : ((-1 : Int) == 1 && (Builtin.Str.strSliceIndices none none (-1) z.length).length == z.length) = false := by
    rw [show ((-1 : Int) == 1) = false from rfl]
    rfl
  rw [no, picks_back]
  refine ⟨?_, .str _, H4, I5.tok _, ⟨_, rfl⟩, q⟩
  show z.cps.toList.reverse.toArray.size ≤ sizeLine
  rw [List.size_toArray, List.length_reverse, Array.length_toList]
  exact short
theorem back_wd {w : List Nat} : (⟨(wd w).cps.toList.reverse.toArray⟩ : Str) = wd w.reverse := by
  unfold wd
  simp
end LX

set_option Elab.async false
set_option maxRecDepth 100000
namespace RX
open PySem L2 LX VA VM VN
open RQ (Hg Bt)
abbrev sRo : Stmt := topS 62
theorem scRo : FnScope ["plain", "word", "row", "sign"] ["plain", "word"] (defScope sRo) := ⟨rfl, rfl, rfl, by decide +kernel, rfl, by decide +kernel, by decide +kernel⟩
abbrev sCl : Stmt := topS 69
theorem scCl : FnScope ["plain", "word", "column", "sign"] ["plain", "word"] (defScope sCl) := ⟨rfl, rfl, rfl, by decide +kernel, rfl, by decide +kernel, by decide +kernel⟩
theorem wsum_bt4 {a b : Nat} {z y : Nat → Int} {n : Nat} (hn : n ≤ 16) (h : ∀ i, i < n → Bt a (z i) ∧ Bt b (y i)) : Bt (a + b + 4) (wsum z y n) := by
  have key : ∀ m, m ≤ n → (wsum z y m).natAbs ≤ m * 2 ^ (a + b) := fun m => by
    induction m with
    | zero => intro _; exact Nat.zero_le _
    | succ m ih =>
      intro hm
      have h1 := ih (by omega)
      have h2 : (z m * y m).natAbs < 2 ^ (a + b) := (h m (by omega)).1.mul (h m (by omega)).2
      have h3 := Int.natAbs_add_le (wsum z y m) (z m * y m)
      show (wsum z y m + z m * y m).natAbs ≤ _
      rw [Nat.succ_mul]
      omega
  have h1 := key n (Nat.le_refl _)
  by_cases n0 : n = 0
  · subst n0
    exact VM.bt0 _
  · have h4 : n * 2 ^ (a + b) ≤ 16 * 2 ^ (a + b) := Nat.mul_le_mul_right _ hn
    show (wsum z y n).natAbs < 2 ^ (a + b + 4)
    have strict : (wsum z y n).natAbs < n * 2 ^ (a + b) := by
      obtain ⟨m, rfl⟩ : ∃ m, n = m + 1 := ⟨n - 1, by omega⟩
      have h1 := key m (by omega)
      have h2 : (z m * y m).natAbs < 2 ^ (a + b) := (h m (by omega)).1.mul (h m (by omega)).2
      have h3 := Int.natAbs_add_le (wsum z y m) (z m * y m)
      show (wsum z y m + z m * y m).natAbs < _
      rw [Nat.succ_mul]
      omega
    rw [Nat.pow_add, Nat.mul_comm]
    exact Nat.lt_of_lt_of_le strict h4
def rwI (p : Pl) : (Nat → Int) → List Nat → Nat → Int
  | r, [] => r
  | r, x :: w => rwI p (ahd p.n r (p.t x)) w
def clI (p : Pl) : List Nat → Nat → Int
  | [] => p.e
  | x :: w => bhd p.n (p.t x) (clI p w)
theorem rwI_snoc {p : Pl} {x : Nat} : ∀ {w : List Nat} {r : Nat → Int}, rwI p r (w ++ [x]) = ahd p.n (rwI p r w) (p.t x)
  | [], _ => rfl
  | y :: w, r => rwI_snoc (w := w)
theorem rwI_bt {p : Pl} (h : PlB p) {a : Nat} : ∀ {w : List Nat} {r : Nat → Int}, Ltk p.k w → (∀ j, j < p.n → Bt a (r j)) → ∀ j, j < p.n → Bt (a + 14 * w.length) (rwI p r w j)
  | [], _, _, hr => hr
  | x :: w, r, hw, hr => fun j hj => by
    have hx := hw x List.mem_cons_self
    have h12 := h.n12
    have := rwI_bt h (a := a + 14) (w := w) (r := ahd p.n r (p.t x)) (fun y hy => hw y (List.mem_cons_of_mem _ hy)) (fun j hj => (wsum_bt4 (by omega) fun i hi => ⟨hr i hi, h.t x hx i hi j hj⟩).up (by omega)) j hj
    exact this.up (by rw [List.length_cons]; omega)
theorem clI_bt {p : Pl} (h : PlB p) : ∀ {w : List Nat}, Ltk p.k w → ∀ j, j < p.n → Bt (80 + 14 * w.length) (clI p w j)
  | [], _ => h.e
  | x :: w, hw => fun j hj => by
    have hx := hw x List.mem_cons_self
    have h12 := h.n12
    have ih := clI_bt h (w := w) fun y hy => hw y (List.mem_cons_of_mem _ hy)
    exact (wsum_bt4 (by omega) fun i hi => ⟨h.t x hx j hj i hi, ih i hi⟩).up (by rw [List.length_cons]; omega)
theorem find_abcd {x : Nat} (h : x < 4) : Txt.find "abcd" (⟨#[97 + x]⟩ : Str) = (x : Int) := by
  have all : ∀ x : Nat, x < 4 → Txt.find "abcd" (⟨#[97 + x]⟩ : Str) = (x : Int) := by decide +kernel
  exact all x h
/-- new, or of the machine itself -/
def NewOr (H : Hp) (pq r : Addr) : Prop := H r = none ∨ ∃ xs, H pq = some (.tup xs) ∧ V.ref r ∈ xs
def spRo (C : Addr) : Sp := fun vs H Q _ => ∃ (pq : Addr) (p : Pl) (u : List Nat), vs = [.ref pq, .str (wd u)] ∧ At C Emp H (.ref pq) (plD p) ∧ PlB p ∧ Ltk p.k u ∧ u.length ≤ 1000 ∧ ∀ (r : Addr) (H' : Hp), Same H H' → H' r = some (.lst (iV p.n (rwI p p.s u))) → NewOr H pq r → Q (.ref r) H'
def spCl (C : Addr) : Sp := fun vs H Q _ => ∃ (pq : Addr) (p : Pl) (u : List Nat), vs = [.ref pq, .str (wd u)] ∧ At C Emp H (.ref pq) (plD p) ∧ PlB p ∧ Ltk p.k u ∧ u.length ≤ 1000 ∧ ∀ (r : Addr) (H' : Hp), Same H H' → H' r = some (.lst (iV p.n (clI p u))) → NewOr H pq r → Q (.ref r) H'
section
variable {P : Program} {w : World} {K : PySem.W.Frag} {mg : Str → Option Value} {base : Heap}
theorem ok_ro {f fA C : Addr} {fd dA : FuncData} (F : Fun K "_law_row" "_law_row" sRo f fd) (cAh : CalN P w K mg base "_law_ahead" 2 ["row", "step"] spAh fA dA) : FnOk P w K mg base CX0 3 f fd ["plain", "word"] (spRo C) := by
  refine F.ok scRo (fun vs H Q E h => ?_) (fun cdv A outer s H vs Q E hr h => ?_)
  · obtain ⟨pq, p, u, rfl, _⟩ := h
    rfl
  · obtain ⟨pq, p, u, rfl, hp, pb, hu, lu, kk⟩ := h
    have hr2 : Room 2 _ := hr
    have k4 := pb.k4
    have n12 := pb.n12
    obtain ⟨ps, pt, pe, pbb, ta, h1, hps, hpt, hpe, hpb, hta⟩ := hp.pl
    have wl : (wd u).cps.size = u.length := wd_len
    refine ⟨_, pss_cons (ps_set (i := 2) scRo.nd rfl (.inl rfl) (pe_ix ix_tup (pv 0) pe_int (fun _ _ => rfl)))
      (pss_cons (ps_for PassesOwn.never rfl (pi_str (pv 1)) (pg_name (i := 3) scRo.nd rfl (.inl rfl))
        (pss_one (ps_set (i := 2) scRo.nd rfl (.inl rfl) (pe_call cAh.G hr2 rfl cAh.m cAh.kp cAh.b .nil pass0 (pa_cons (pv 2) (pa_cons (pe_ix ix_list (pe_ix ix_tup (pv 0) pe_int (fun _ _ => rfl)) (pe_bm PySem.F.plainAttrs_str PySem.F.slot_str_find PySem.F.type_str_find mt_find pe_str (pa_cons (pv 3) pa_nil)) (fun _ _ => rfl)) pa_nil))))))
      (pss_one (ps_ret (pv 2)))), ?_⟩
    refine ⟨_, rfl, pq, _, 1, _, rfl, rfl, SqT.of h1, rfl, ?_⟩
    refine ⟨_, rfl, _, rfl, for_it (walk_str (z := wd u)) (fun i σ G => ∃ r o3, σ = [some (.ref pq), some (.str (wd u)), some (.ref r), o3] ∧ Same H G ∧ G r = some (.lst (iV p.n (rwI p p.s (u.take i)))) ∧ NewOr H pq r) ⟨ps, none, rfl, Same.refl _, hps, .inr ⟨_, h1, by simp⟩⟩ (fun _ _ _ _ _ => trivial) ?_ ?_⟩
    · rintro i x σ G1 G2 hi ⟨r, o3, rfl, s1, hr1, nr⟩ ⟨rfl, c, hc, rfl⟩
      rw [wl] at hi
      rw [wd_at, List.getElem?_eq_getElem hi] at hc
      obtain rfl := Option.some.inj hc
      have xk : u[i] < p.k := hu _ (List.getElem_mem hi)
      refine ⟨_, rfl, _, rfl, pq, _, 2, _, rfl, rfl, SqT.of (s1 _ _ h1), rfl, ?_⟩
      refine ⟨rfl, _, rfl, _, _, rfl, rfl, pt, _, _, _, rfl, rfl, SqL.of (s1 _ _ hpt), at_of (find_abcd (by omega)) (TabR.get xk), ?_⟩
      obtain ⟨ra, t1, t2⟩ := hta _ xk
      refine ⟨r, ta u[i], p.n, 80 + 14 * 1000, 10, _, p.t u[i], rfl, hr1, ⟨ra, s1 _ _ t1, fun i hi => s1 _ _ (t2 i hi)⟩, by omega, fun j hj => ?_, pb.t _ xk, by decide, by decide, fun r2 G3 s3 nw hr3 => ?_⟩
      · refine (rwI_bt pb (fun y hy => hu y (List.mem_of_mem_take hy)) pb.s j hj).up ?_
        have := List.length_take_le i u
        omega
      · refine ⟨r2, _, rfl, s1.trans s3, ?_, .inl (s1.free nw)⟩
        rw [hr3]
        have e : u.take (i + 1) = u.take i ++ [u[i]] := take_snoc hi
        rw [e, rwI_snoc]
    · rintro σ G ⟨r, o3, rfl, s1, hr1, nr⟩
      rw [wl, List.take_length] at hr1
      exact ⟨_, rfl, kk r G s1 hr1 nr⟩
theorem ok_cl {f fA C : Addr} {fd dA : FuncData} (F : Fun K "_law_column" "_law_column" sCl f fd) (cBh : CalN P w K mg base "_law_behind" 2 ["step", "column"] spBh fA dA) : FnOk P w K mg base CX0 3 f fd ["plain", "word"] (spCl C) := by
  refine F.ok scCl (fun vs H Q E h => ?_) (fun cdv A outer s H vs Q E hr h => ?_)
  · obtain ⟨pq, p, u, rfl, _⟩ := h
    rfl
  · obtain ⟨pq, p, u, rfl, hp, pb, hu, lu, kk⟩ := h
    have hr2 : Room 2 _ := hr
    have k4 := pb.k4
    have n12 := pb.n12
    obtain ⟨ps, pt, pe, pbb, ta, h1, hps, hpt, hpe, hpb, hta⟩ := hp.pl
    refine ⟨_, pss_cons (ps_set (i := 2) scCl.nd rfl (.inl rfl) (pe_ix ix_tup (pv 0) pe_int (fun _ _ => rfl)))
      (pss_cons (ps_for PassesOwn.never rfl (pi_str (LX.pe_backS (pv 1))) (pg_name (i := 3) scCl.nd rfl (.inl rfl))
        (pss_one (ps_set (i := 2) scCl.nd rfl (.inl rfl) (pe_call cBh.G hr2 rfl cBh.m cBh.kp cBh.b .nil pass0 (pa_cons (pe_ix ix_list (pe_ix ix_tup (pv 0) pe_int (fun _ _ => rfl)) (pe_bm PySem.F.plainAttrs_str PySem.F.slot_str_find PySem.F.type_str_find mt_find pe_str (pa_cons (pv 3) pa_nil)) (fun _ _ => rfl)) (pa_cons (pv 2) pa_nil))))))
      (pss_one (ps_ret (pv 2)))), ?_⟩
    refine ⟨_, rfl, pq, _, 3, _, rfl, rfl, SqT.of h1, rfl, ?_⟩
    have wl : (wd u).length = u.length := wd_len
    have rev : (⟨(wd u).cps.toList.reverse.toArray⟩ : Str) = wd u.reverse := by
      unfold wd
      simp
    refine ⟨_, rfl, wd u, rfl, by rw [wl]; exact Nat.le_of_lt (small1000 (by omega)), ?_⟩
    rw [rev]
    have wl2 : (wd u.reverse).cps.size = u.length := by
      have := wd_len (w := u.reverse)
      rw [List.length_reverse] at this
      exact this
    refine ⟨_, rfl, for_it (walk_str (z := wd u.reverse)) (fun i σ G => ∃ r o3, σ = [some (.ref pq), some (.str (wd u)), some (.ref r), o3] ∧ Same H G ∧ G r = some (.lst (iV p.n (clI p (u.drop (u.length - i))))) ∧ NewOr H pq r) ⟨pe, none, rfl, Same.refl _, ?_, .inr ⟨_, h1, by simp⟩⟩ (fun _ _ _ _ _ => trivial) ?_ ?_⟩
    · rw [Nat.sub_zero, List.drop_length]; exact hpe
    · rintro i x σ G1 G2 hi ⟨r, o3, rfl, s1, hr1, nr⟩ ⟨rfl, c, hc, rfl⟩
      rw [wl2] at hi
      have il : u.length - 1 - i < u.length := by omega
      rw [wd_at, List.getElem?_reverse hi, List.getElem?_eq_getElem il] at hc
      obtain rfl := Option.some.inj hc
      have xk : u[u.length - 1 - i] < p.k := hu _ (List.getElem_mem il)
      have e : u.drop (u.length - (i + 1)) = u[u.length - 1 - i] :: u.drop (u.length - i) := by
        have e1 : u.length - (i + 1) = u.length - 1 - i := by omega
        have e2 : u.length - i = u.length - 1 - i + 1 := by omega
        rw [e1, e2, List.drop_eq_getElem_cons il]
      refine ⟨_, rfl, pq, _, 2, _, rfl, rfl, SqT.of (s1 _ _ h1), rfl, ?_⟩
      refine ⟨rfl, _, rfl, _, _, rfl, rfl, pt, _, _, _, rfl, rfl, SqL.of (s1 _ _ hpt), at_of (find_abcd (by omega)) (TabR.get xk), ?_⟩
      obtain ⟨ra, t1, t2⟩ := hta _ xk
      refine ⟨_, rfl, r, ta u[u.length - 1 - i], p.n, 80 + 14 * 1000, 10, _, p.t u[u.length - 1 - i], rfl, hr1, ⟨ra, s1 _ _ t1, fun i hi => s1 _ _ (t2 i hi)⟩, by omega, fun j hj => ?_, pb.t _ xk, by decide, by decide, fun r2 G3 s3 nw hr3 => ?_⟩
      · refine (clI_bt pb (fun y hy => hu y (List.mem_of_mem_drop hy)) j hj).up ?_
        rw [List.length_drop]
        omega
      · refine ⟨r2, _, rfl, s1.trans s3, ?_, .inl (s1.free nw)⟩
        rw [hr3, e]
        rfl
    · rintro σ G ⟨r, o3, rfl, s1, hr1, nr⟩
      rw [wl2, Nat.sub_self, List.drop_zero] at hr1
      exact ⟨_, rfl, kk r G s1 hr1 nr⟩
end
end RX

set_option Elab.async false
set_option maxRecDepth 100000
namespace RX
open PySem L2 LX VA VM VN
open RQ (Hg Bt)
/-! ### all short words, with their rows and columns -/
abbrev sRws : Stmt := topS 63
theorem scRws : FnScope ["plain", "length", "found", "level", "turn", "longer", "pair", "letter"] ["plain", "length"] (defScope sRws) := ⟨rfl, rfl, rfl, by decide +kernel, rfl, by decide +kernel, by decide +kernel⟩
abbrev sCls : Stmt := topS 64
theorem scCls : FnScope ["plain", "length", "found", "level", "turn", "longer", "letter", "pair"] ["plain", "length"] (defScope sCls) := ⟨rfl, rfl, rfl, by decide +kernel, rfl, by decide +kernel, by decide +kernel⟩
def wlev (k : Nat) : Nat → List (List Nat)
  | 0 => [[]]
  | t + 1 => (wlev k t).flatMap fun u => (List.range k).map fun x => u ++ [x]
def clev (k : Nat) : Nat → List (List Nat)
  | 0 => [[]]
  | t + 1 => (List.range k).flatMap fun x => (clev k t).map fun u => x :: u
def levs (lev : Nat → List (List Nat)) : Nat → List (List Nat)
  | 0 => []
  | t + 1 => levs lev t ++ lev t
def geo (k : Nat) : Nat → Nat
  | 0 => 0
  | t + 1 => geo k t + k ^ t
theorem flat_len {α β : Type} {c : Nat} {f : α → List β} : ∀ {l : List α}, (∀ x ∈ l, (f x).length = c) → (l.flatMap f).length = l.length * c
  | [], _ => by simp
  | x :: l, h => by
    rw [List.flatMap_cons, List.length_append, h x List.mem_cons_self, flat_len fun y hy => h y (List.mem_cons_of_mem _ hy), List.length_cons, Nat.succ_mul, Nat.add_comm]
theorem wlev_len {k : Nat} : ∀ {t : Nat}, (wlev k t).length = k ^ t
  | 0 => rfl
  | t + 1 => by
    show ((wlev k t).flatMap _).length = _
    rw [flat_len (c := k) fun u _ => by rw [List.length_map, List.length_range], wlev_len, Nat.pow_succ]
theorem clev_len {k : Nat} : ∀ {t : Nat}, (clev k t).length = k ^ t
  | 0 => rfl
  | t + 1 => by
    show ((List.range k).flatMap _).length = _
    rw [flat_len (c := k ^ t) fun x _ => by rw [List.length_map, clev_len], List.length_range, Nat.pow_succ, Nat.mul_comm]
theorem levs_len {k : Nat} {lev : Nat → List (List Nat)} (h : ∀ t, (lev t).length = k ^ t) : ∀ {t : Nat}, (levs lev t).length = geo k t
  | 0 => rfl
  | t + 1 => by
    show (levs lev t ++ lev t).length = _
    rw [List.length_append, levs_len h, h]
    rfl
theorem wlev_mem {k : Nat} : ∀ {t : Nat} {u : List Nat}, u ∈ wlev k t → u.length = t ∧ Ltk k u
  | 0, u, h => by
    rw [List.mem_singleton.mp h]
    exact ⟨rfl, fun x hx => absurd hx List.not_mem_nil⟩
  | t + 1, u, h => by
    obtain ⟨v, hv, h2⟩ := List.mem_flatMap.mp h
    obtain ⟨x, hx, rfl⟩ := List.mem_map.mp h2
    obtain ⟨l, lt⟩ := wlev_mem hv
    refine ⟨by rw [List.length_append, l]; rfl, fun y hy => ?_⟩
    rcases List.mem_append.mp hy with hy | hy
    · exact lt y hy
    · rw [List.mem_singleton.mp hy]
      exact List.mem_range.mp hx
theorem clev_mem {k : Nat} : ∀ {t : Nat} {u : List Nat}, u ∈ clev k t → u.length = t ∧ Ltk k u
  | 0, u, h => by
    rw [List.mem_singleton.mp h]
    exact ⟨rfl, fun x hx => absurd hx List.not_mem_nil⟩
  | t + 1, u, h => by
    obtain ⟨x, hx, h2⟩ := List.mem_flatMap.mp h
    obtain ⟨v, hv, rfl⟩ := List.mem_map.mp h2
    obtain ⟨l, lt⟩ := clev_mem hv
    refine ⟨by rw [List.length_cons, l], fun y hy => ?_⟩
    rcases List.mem_cons.mp hy with rfl | hy
    · exact List.mem_range.mp hx
    · exact lt y hy
theorem levs_mem {k : Nat} {lev : Nat → List (List Nat)} (h : ∀ t u, u ∈ lev t → u.length = t ∧ Ltk k u) : ∀ {t : Nat} {u : List Nat}, u ∈ levs lev t → u.length < t ∧ Ltk k u
  | 0, u, m => absurd m List.not_mem_nil
  | t + 1, u, m => by
    rcases List.mem_append.mp m with m | m
    · have := levs_mem h m
      exact ⟨by omega, this.2⟩
    · have := h t u m
      exact ⟨by omega, this.2⟩
theorem geo_one : ∀ {t : Nat}, geo 1 t = t
  | 0 => rfl
  | t + 1 => by
    show geo 1 t + 1 ^ t = _
    rw [geo_one, Nat.one_pow]
theorem geo_le {p : Pl} (h : PlB p) {t : Nat} (ht : t ≤ p.n) : geo p.k t ≤ 341 := by
  have k1 := h.k1
  have k4 := h.k4
  have n12 := h.n12
  by_cases e : p.k = 1
  · rw [e, geo_one]
    omega
  · have := h.kn (by omega)
    have all : ∀ k, k ≤ 4 → ∀ t, t ≤ 5 → geo k t ≤ 341 := by decide
    exact all _ k4 t (by omega)
/-- a word with ints -/
def prI (n : Nat) (u : List Nat) (z : Nat → Int) : Dat := .tup [.str (wd u), intL n z]
theorem At.prI {C : Addr} {N : Addr → Prop} {H : Hp} {v : V} {n : Nat} {u : List Nat} {z : Nat → Int} (h : At C N H v (prI n u z)) : ∃ t r, v = .ref t ∧ H t = some (.tup [.str (wd u), .ref r]) ∧ H r = some (.lst (iV n z)) ∧ ¬ N t ∧ ¬ N r := by
  obtain ⟨t, rfl⟩ := h.tupV
  obtain ⟨xs, hp, l, e⟩ := h.tupE
  match xs, l with
  | [x, y], _ =>
    have h0 := (e 0 x _ rfl rfl).strV
    have h1 := e 1 y _ rfl rfl
    subst h0
    obtain ⟨r, rfl⟩ := h1.lstV
    exact ⟨t, r, rfl, hp, h1.ints, h.notin, h1.notin⟩
theorem at_prI {C : Addr} {N : Addr → Prop} {H : Hp} {t r : Addr} {n : Nat} {u : List Nat} {z : Nat → Int} (h : H t = some (.tup [.str (wd u), .ref r])) (h2 : H r = some (.lst (iV n z))) (n1 : ¬ N t) (n2 : ¬ N r) : At C N H (.ref t) (RX.prI n u z) :=
  .tup h n1 rfl (itemsC (.str _) (items1 (at_ints h2 n2)))
/-- words with their rows or columns -/
def datW (n : Nat) (val : List Nat → Nat → Int) (ws : List (List Nat)) : List Dat := ws.map fun u => prI n u (val u)
theorem Bld.same {C : Addr} {N : Addr → Prop} {H0 H2 H3 : Hp} {D : Addr} {ds : List Dat} (B : Bld C Emp N H0 D ds H2) (s : Same H2 H3) : Bld C Emp N H0 D ds H3 := by
  obtain ⟨xs, hD, l, e⟩ := B.xs
  exact ⟨⟨xs, s _ _ hD, l, fun i x d h1 h2 => (e i x d h1 h2).same s⟩, B.k.trans (Same.keep s)⟩
/-- the list with all that another one holds -/
theorem Bld.cat {C : Addr} {N : Addr → Prop} {H0 H2 : Hp} {D L : Addr} {ds es : List Dat} (B : Bld C Emp N H0 D ds H2) (f : H0 D = none) (h : At C (And1 N D) H2 (.ref L) (.lst es)) :
    ∃ acc ys, H2 D = some (.lst acc) ∧ H2 L = some (.lst ys) ∧ acc.length = ds.length ∧ ys.length = es.length ∧ Bld C Emp N H0 D (ds ++ es) (upd H2 D (.lst (acc ++ ys))) := by
  obtain ⟨xs, hD, l, e⟩ := B.xs
  obtain ⟨ys, hL, l2, e2⟩ := h.lstE
  have ku : Keep (And1 N D) H2 (upd H2 D (.lst (xs ++ ys))) := Keep.upd (.inr rfl)
  refine ⟨xs, ys, hD, hL, l, l2, ⟨xs ++ ys, upd_same, by rw [List.length_append, List.length_append, l, l2], fun i y z h1 h2 => ?_⟩, ⟨fun b o hb n => ?_, fun b hb => ?_⟩⟩
  · by_cases lt : i < xs.length
    · rw [List.getElem?_append_left lt] at h1
      rw [List.getElem?_append_left (by omega)] at h2
      exact (e i y z h1 h2).keep ku
    · rw [List.getElem?_append_right (by omega)] at h1
      rw [List.getElem?_append_right (by omega), ← l] at h2
      exact (e2 _ _ _ h1 h2).keep ku
  · rw [upd_ne (ne_of_none hb f)]
    exact B.k.k _ _ hb n
  · exact ku.a b (B.k.a b hb)
theorem datW_snoc {n : Nat} {val : List Nat → Nat → Int} {ws : List (List Nat)} {y : Nat} {f : Nat → List Nat} : datW n val (ws ++ (List.range (y + 1)).map f) = datW n val (ws ++ (List.range y).map f) ++ [prI n (f y) (val (f y))] := by simp [datW, List.range_succ]
theorem datW_take {n : Nat} {val : List Nat → Nat → Int} {ws us : List (List Nat)} {y : Nat} {u : List Nat} {f : List Nat → List Nat} (h : us[y]? = some u) : datW n val (ws ++ (us.take (y + 1)).map f) = datW n val (ws ++ (us.take y).map f) ++ [prI n (f u) (val (f u))] := by simp [datW, List.take_add_one, h]
theorem abcd_at0 {y : Nat} (h : y < 4) : atI abcd.cps.toList (0 + (y : Int)) = some (97 + y) := by rw [Int.zero_add]; exact abcd_at h
def spRws (C : Addr) : Sp := fun vs H Q _ => ∃ (pq : Addr) (p : Pl) (len : Nat), vs = [.ref pq, .int (len : Int)] ∧ At C Emp H (.ref pq) (plD p) ∧ PlB p ∧ len ≤ p.n ∧ ∀ (r : Addr) (H' : Hp), Same H H' → At C Emp H' (.ref r) (.lst (datW p.n (rwI p p.s) (levs (wlev p.k) len))) → Q (.ref r) H'
def spCls (C : Addr) : Sp := fun vs H Q _ => ∃ (pq : Addr) (p : Pl) (len : Nat), vs = [.ref pq, .int (len : Int)] ∧ At C Emp H (.ref pq) (plD p) ∧ PlB p ∧ len ≤ p.n ∧ ∀ (r : Addr) (H' : Hp), Same H H' → At C Emp H' (.ref r) (.lst (datW p.n (clI p) (levs (clev p.k) len))) → Q (.ref r) H'
section
variable {P : Program} {w : World} {K : PySem.W.Frag} {mg : Str → Option Value} {base : Heap}
theorem ok_rws {f fA C : Addr} {fd dA : FuncData} (F : Fun K "_law_rows" "_law_rows" sRws f fd) (T : TxtL mg) (cAh : CalN P w K mg base "_law_ahead" 2 ["row", "step"] spAh fA dA) : FnOk P w K mg base CX0 3 f fd ["plain", "length"] (spRws C) := by
  refine F.ok scRws (fun vs H Q E h => ?_) (fun cdv A outer s H vs Q E hr h => ?_)
  · obtain ⟨pq, p, len, rfl, _⟩ := h
    rfl
  · obtain ⟨pq, p, len, rfl, hp, pb, hl, kk⟩ := h
    have hr2 : Room 2 _ := hr
    have k4 := pb.k4
    have n12 := pb.n12
    obtain ⟨ps, pt, pe, pbb, ta, h1, hps, hpt, hpe, hpb, hta⟩ := hp.pl
    refine ⟨_, pss_cons (ps_set (i := 2) scRws.nd rfl (.inl rfl) (pe_lst pa_nil))
      (pss_cons (ps_set (i := 3) scRws.nd rfl (.inl rfl) (pe_lst (pa_cons (pe_tup (pa_cons pe_str (pa_cons (pe_ix ix_tup (pv 0) pe_int (fun _ _ => rfl)) pa_nil))) pa_nil)))
      (pss_cons (ps_for PassesOwn.never rfl (pi_range1 (by rfl) T.range (pa_cons (pv 1) pa_nil)) (pg_name (i := 4) scRws.nd rfl (.inl rfl))
        (pss_cons (ps_expr (pe_bm PySem.F.plainAttrs_list PySem.F.slot_list_extend PySem.F.type_list_extend mt_extend (pv 2) (pa_cons (pv 3) pa_nil)))
        (pss_cons (ps_if (pt_cmpR op_eq (pe_op op_add (pv 4) pe_int) (pv 1) (nomark _))
          (pss_one ps_break)
          pss_nil)
        (pss_cons (ps_set (i := 5) scRws.nd rfl (.inl rfl) (pe_lst pa_nil))
        (pss_cons (ps_for PassesOwn.never rfl (pi_list (pv 3)) (pg_name (i := 6) scRws.nd rfl (.inl rfl))
          (pss_one (ps_for PassesOwn.never rfl (pi_range1 (by rfl) T.range (pa_cons (pe_ix ix_tup (pv 0) pe_int (fun _ _ => rfl)) pa_nil)) (pg_name (i := 7) scRws.nd rfl (.inl rfl))
            (pss_one (ps_expr (pe_bm PySem.F.plainAttrs_list PySem.F.slot_list_append PySem.F.type_list_append mt_append (pv 5) (pa_cons (pe_tup (pa_cons (pe_op op_add_str (pe_ix ix_tup (pv 6) pe_int (fun _ _ => rfl)) (pe_ix ix_str pe_str (pv 7) (fun _ _ => rfl))) (pa_cons (pe_call cAh.G hr2 rfl cAh.m cAh.kp cAh.b .nil pass0 (pa_cons (pe_ix ix_tup (pv 6) pe_int (fun _ _ => rfl)) (pa_cons (pe_ix ix_list (pe_ix ix_tup (pv 0) pe_int (fun _ _ => rfl)) (pv 7) (fun _ _ => rfl)) pa_nil))) pa_nil))) pa_nil)))))))
        (pss_one (ps_set (i := 3) scRws.nd rfl (.inl rfl) (pv 5))))))))
      (pss_one (ps_ret (pv 2))))), ?_⟩
    refine ⟨(by show 0 ≤ sizeLine; decide), fun F nF => ?_⟩
    have bF : Bld C Emp Emp H F [] (upd H F (.lst [])) := bld0 nF
    generalize upd H F (.lst []) = H1 at *
    have s1 := bF.k.same
    refine ⟨_, rfl, pq, _, 1, _, rfl, rfl, SqT.of (s1 _ _ h1), rfl, (by show 2 ≤ sizeLine; decide), fun t0 nt0 => ?_⟩
    have psF : ps ≠ F := ne_of_none hps nF
    have s2 : Same H1 (upd H1 t0 (.tup [.str "", .ref ps])) := Same.upd nt0
    have ht0 : (upd H1 t0 (.tup [.str "", .ref ps])) t0 = some (.tup [.str "", .ref ps]) := upd_same
    have t0F : t0 ≠ F := fun e => by obtain ⟨_, h, _⟩ := bF.xs; rw [e, h] at nt0; cases nt0
    generalize upd H1 t0 (.tup [.str "", .ref ps]) = H2 at *
    refine ⟨(by show 1 ≤ sizeLine; decide), fun L nL => ?_⟩
    have s3 : Same H2 (upd H2 L (.lst [.ref t0])) := Same.upd nL
    have bF3 := (bF.same s2).same s3
    have LF : L ≠ F := fun e => by obtain ⟨_, h, _⟩ := (bF.same s2).xs; rw [e, h] at nL; cases nL
    have hL : At C (And1 Emp F) (upd H2 L (.lst [.ref t0])) (.ref L) (.lst (datW p.n (rwI p p.s) (wlev p.k 0))) := .lst upd_same (fun z => z.elim id LF) rfl (items1 (at_prI (s3 _ _ ht0) (s3 _ _ (s2 _ _ (s1 _ _ hps))) (fun z => z.elim id t0F) (fun z => z.elim id psF)))
    generalize upd H2 L (.lst [.ref t0]) = H3 at *
    refine ⟨_, rfl, len, rfl, by omega, by omega, for_range (n := len) (fun t σ G => ∃ F L o4 o5 o6 o7, σ = [some (.ref pq), some (.int (len : Int)), some (.ref F), some (.ref L), o4, o5, o6, o7] ∧ H F = none ∧ Bld C Emp Emp H F (datW p.n (rwI p p.s) (levs (wlev p.k) t)) G ∧ At C (And1 Emp F) G (.ref L) (.lst (datW p.n (rwI p p.s) (wlev p.k t)))) ⟨F, L, none, none, none, none, rfl, nF, bF3, hL⟩ ?_ ?_⟩
    · rintro t σ G ht ⟨F, L, o4, o5, o6, o7, rfl, nF, bF, hL⟩
      obtain ⟨acc, ys, a1, a2, a3, a4, bF1⟩ := bF.cat nF hL
      refine ⟨_, rfl, .inl ⟨rfl, _, SqL.of a1⟩, _, rfl, F, L, acc, ys, rfl, rfl, a1, a2, ?_, ?_⟩
      · rw [a3, a4]
        unfold datW
        rw [List.length_map, List.length_map, levs_len fun t => wlev_len (k := p.k), wlev_len]
        have := geo_le pb (t := t + 1) (by omega)
        have e : geo p.k (t + 1) = geo p.k t + p.k ^ t := rfl
        exact Nat.le_of_lt (small1000 (by omega))
      have hL1 := hL.keep (Keep.upd (N := And1 Emp F) (o := .lst (acc ++ ys)) (H := G) (.inr rfl))
      have eF : datW p.n (rwI p p.s) (levs (wlev p.k) t) ++ datW p.n (rwI p p.s) (wlev p.k t) = datW p.n (rwI p p.s) (levs (wlev p.k) (t + 1)) := by unfold datW; rw [← List.map_append]; rfl
      rw [eF] at bF1
      generalize upd G F (.lst (acc ++ ys)) = G1 at *
      have sG1 := bF1.k.same
      refine ⟨_, rfl, _, _, rfl, rfl, _, rfl, rfl, _, rfl, ite2 (fun e => ?_) (fun e => ?_)⟩
      · have e : len = t + 1 := by
          have e := of_decide_eq_true e
          injection e with e
          omega
        subst e
        exact ⟨_, rfl, kk F G1 sG1 (bF1.done id)⟩
      · refine ⟨(by show 0 ≤ sizeLine; decide), fun X nX => ?_⟩
        have bX : Bld C Emp (And1 Emp F) G1 X (datW p.n (rwI p p.s) []) (upd G1 X (.lst [])) := bld0 nX
        obtain ⟨zs, hL, lz, eL⟩ := hL1.lstE
        have lz : zs.length = p.k ^ t := by rw [lz]; unfold datW; rw [List.length_map, wlev_len]
        have ne : len ≠ t + 1 := fun z => e (by
          subst z
          refine decide_eq_true ?_
          show V.int ((0 + (t : Int)) + 1) = V.int ((t + 1 : Nat) : Int)
          congr 1
          omega)
        have sm : p.k ^ t * p.k ≤ 341 := by
          have h1 := geo_le pb (t := t + 2) (by omega)
          have h2 : geo p.k (t + 2) = geo p.k (t + 1) + p.k ^ (t + 1) := rfl
          rw [Nat.pow_succ] at h2
          omega
        have st : ∀ {b o}, H b = some o → G1 b = some o := fun h => sG1 _ _ h
        have hFG : ∃ acc, G1 F = some (.lst acc) := by obtain ⟨xs, hD, _⟩ := bF1.xs; exact ⟨xs, hD⟩
        have XF : X ≠ F := fun z => by obtain ⟨_, h⟩ := hFG; rw [z, h] at nX; cases nX
        generalize upd G1 X (.lst []) = G2 at *
        refine ⟨_, rfl, L, rfl, ⟨_, SqL.of (bX.k.same _ _ hL)⟩, for_it (walk_list (a := L) (xs := zs)) (fun i σ G => ∃ o4 o6 o7, σ = [some (.ref pq), some (.int (len : Int)), some (.ref F), some (.ref L), o4, some (.ref X), o6, o7] ∧ Bld C Emp (And1 Emp F) G1 X (datW p.n (rwI p p.s) (((wlev p.k t).take i).flatMap fun u => (List.range p.k).map fun x => u ++ [x])) G) ⟨_, _, _, rfl, bX⟩ (fun i _ G _ h => by obtain ⟨_, _, _, _, b⟩ := h; exact SqL.of (b.k.same _ _ hL)) ?_ ?_⟩
        · rintro i x σ G3 G3 hi ⟨o4, o6, o7, rfl, bX⟩ ⟨rfl, hx⟩
          rw [lz] at hi
          have iw : i < (wlev p.k t).length := by rw [wlev_len]; exact hi
          obtain ⟨u, hu⟩ : ∃ u, (wlev p.k t)[i]? = some u := ⟨_, List.getElem?_eq_getElem iw⟩
          have um := wlev_mem (List.mem_of_getElem? hu)
          obtain ⟨tt, r, rfl, h5, h6, n1, n2⟩ := (eL i x (prI p.n u (rwI p p.s u)) hx (by unfold datW; rw [List.getElem?_map, hu]; rfl)).prI
          have l0 : ((wlev p.k t).take i).length = i := by rw [List.length_take]; omega
          have fl : (((wlev p.k t).take i).flatMap fun u => (List.range p.k).map fun x => u ++ [x]).length = i * p.k := by
            rw [flat_len (c := p.k) (fun u _ => by rw [List.length_map, List.length_range]), l0]
          have ik : i * p.k + p.k ≤ 341 := by
            have : (i + 1) * p.k ≤ p.k ^ t * p.k := Nat.mul_le_mul_right _ hi
            rw [Nat.succ_mul] at this
            omega
          have nx : ((wlev p.k t).take (i + 1)).flatMap (fun u => (List.range p.k).map fun x => u ++ [x]) = (((wlev p.k t).take i).flatMap fun u => (List.range p.k).map fun x => u ++ [x]) ++ (List.range p.k).map fun x => u ++ [x] := by
            rw [List.take_add_one, hu, List.flatMap_append]
            simp
          rw [nx]
          generalize (((wlev p.k t).take i).flatMap fun u => (List.range p.k).map fun x => u ++ [x]) = ws at *
          have sX := bX.k.same
          refine ⟨_, rfl, pq, _, 0, _, rfl, rfl, SqT.of (sX _ _ (st h1)), rfl, p.k, rfl, by omega, by omega, for_range (n := p.k) (fun x σ G => ∃ o4 o7, σ = [some (.ref pq), some (.int (len : Int)), some (.ref F), some (.ref L), o4, some (.ref X), some (.ref tt), o7] ∧ Bld C Emp (And1 Emp F) G1 X (datW p.n (rwI p p.s) (ws ++ (List.range x).map fun x => u ++ [x])) G) ⟨_, _, rfl, by rw [List.range_zero, List.map_nil, List.append_nil]; exact bX⟩ ?_ ?_⟩
          · rintro y σ G4 hy ⟨o4, o7, rfl, bX⟩
            have sX := bX.k.same
            obtain ⟨ac0, hX, la, _⟩ := bX.xs
            have lu : (wd u).length + (⟨#[97 + y]⟩ : Str).length ≤ sizeLine := by
              rw [wd_len, um.1]
              exact Nat.le_of_lt (small1000 (by show t + 1 ≤ 1000; omega))
            obtain ⟨ra, t1, t2⟩ := hta y hy
            refine ⟨_, rfl, .inl ⟨rfl, _, SqL.of hX⟩, _, rfl, tt, _, 0, _, rfl, rfl, SqT.of (sX _ _ h5), rfl, _, rfl, _, _, 97 + y, rfl, rfl, abcd_len, abcd_at0 (by omega), _, _, rfl, rfl, lu, ?_⟩
            refine ⟨_, rfl, tt, _, 1, _, rfl, rfl, SqT.of (sX _ _ h5), rfl, _, rfl, pq, _, 2, _, rfl, rfl, SqT.of (sX _ _ (st h1)), rfl, _, rfl, pt, _, _, _, rfl, rfl, SqL.of (sX _ _ (st hpt)), at_of (Int.zero_add _) (TabR.get hy), ?_⟩
            refine ⟨r, ta y, p.n, 80 + 14 * 1000, 10, _, p.t y, rfl, sX _ _ h6, ⟨ra, sX _ _ (st t1), fun i hi => sX _ _ (st (t2 i hi))⟩, by omega, fun j hj => ?_, pb.t _ hy, by decide, by decide, fun r2 G5 s5 nr2 hr2 => ?_⟩
            · refine (rwI_bt pb um.2 pb.s j hj).up ?_
              rw [um.1]
              omega
            refine ⟨(by show 2 ≤ sizeLine; decide), fun T nT => ?_⟩
            have e1 : (wd u ++ (⟨#[97 + y]⟩ : Str)) = wd (u ++ [y]) := wd_append (v := [y])
            have hX5 := s5 _ _ hX
            have hF5 : ∃ acc, G5 F = some (.lst acc) := by obtain ⟨a, h⟩ := hFG; exact ⟨a, s5 _ _ (sX _ _ h)⟩
            have sT : Same G5 (upd G5 T (.tup [.str (wd (u ++ [y])), .ref r2])) := Same.upd nT
            have TF : T ≠ F := fun z => by obtain ⟨_, h⟩ := hF5; rw [z, h] at nT; cases nT
            have TX : T ≠ X := fun z => by rw [z, hX5] at nT; cases nT
            have r2F : r2 ≠ F := fun z => by obtain ⟨_, h⟩ := hFG; have := sX _ _ h; rw [z, this] at nr2; cases nr2
            have r2X : r2 ≠ X := fun z => by rw [z, hX] at nr2; cases nr2
            have hT : At C (And1 (And1 Emp F) X) (upd G5 T (.tup [.str (wd (u ++ [y])), .ref r2])) (.ref T) (prI p.n (u ++ [y]) (rwI p p.s (u ++ [y]))) := by
              refine at_prI upd_same (sT _ _ ?_) (fun z => z.elim (fun z => z.elim id TF) TX) (fun z => z.elim (fun z => z.elim id r2F) r2X)
              rw [rwI_snoc]
              exact hr2
            obtain ⟨acc, a1, a2, a3⟩ := bX.step nX (Same.keep (s5.trans sT)) (fun _ z => z.elim) id hT
            rw [e1]
            refine ⟨X, acc, .ref T, rfl, rfl, a1, ?_, ?_⟩
            · rw [a2]
              unfold datW
              rw [List.length_map, List.length_append, List.length_map, List.length_range, fl]
              exact small1000 (by omega)
            · refine ⟨_, _, rfl, ?_⟩
              have e2 := datW_snoc (n := p.n) (val := rwI p p.s) (ws := ws) (y := y) (f := fun x => u ++ [x])
              rw [e2]
              exact a3
          · rintro σ G4 ⟨o4, o7, rfl, bX⟩
            exact ⟨_, _, _, rfl, bX⟩
        · rintro σ G3 ⟨o4, o6, o7, rfl, bX⟩
          rw [lz, ← wlev_len (k := p.k) (t := t), List.take_length] at bX
          exact ⟨_, rfl, F, X, _, _, _, _, rfl, nF, bF1.same bX.k.same, bX.done (fun z => z.elim id XF)⟩
    · rintro σ G ⟨F, L, o4, o5, o6, o7, rfl, nF, bF, hL⟩
      exact ⟨_, rfl, kk F G bF.k.same (bF.done id)⟩
theorem ok_cls {f fA C : Addr} {fd dA : FuncData} (F : Fun K "_law_columns" "_law_columns" sCls f fd) (T : TxtL mg) (cBh : CalN P w K mg base "_law_behind" 2 ["step", "column"] spBh fA dA) : FnOk P w K mg base CX0 3 f fd ["plain", "length"] (spCls C) := by
  refine F.ok scCls (fun vs H Q E h => ?_) (fun cdv A outer s H vs Q E hr h => ?_)
  · obtain ⟨pq, p, len, rfl, _⟩ := h
    rfl
  · obtain ⟨pq, p, len, rfl, hp, pb, hl, kk⟩ := h
    have hr2 : Room 2 _ := hr
    have k4 := pb.k4
    have n12 := pb.n12
    obtain ⟨ps, pt, pe, pbb, ta, h1, hps, hpt, hpe, hpb, hta⟩ := hp.pl
    refine ⟨_, pss_cons (ps_set (i := 2) scCls.nd rfl (.inl rfl) (pe_lst pa_nil))
      (pss_cons (ps_set (i := 3) scCls.nd rfl (.inl rfl) (pe_lst (pa_cons (pe_tup (pa_cons pe_str (pa_cons (pe_ix ix_tup (pv 0) pe_int (fun _ _ => rfl)) pa_nil))) pa_nil)))
      (pss_cons (ps_for PassesOwn.never rfl (pi_range1 (by rfl) T.range (pa_cons (pv 1) pa_nil)) (pg_name (i := 4) scCls.nd rfl (.inl rfl))
        (pss_cons (ps_expr (pe_bm PySem.F.plainAttrs_list PySem.F.slot_list_extend PySem.F.type_list_extend mt_extend (pv 2) (pa_cons (pv 3) pa_nil)))
        (pss_cons (ps_if (pt_cmpR op_eq (pe_op op_add (pv 4) pe_int) (pv 1) (nomark _))
          (pss_one ps_break)
          pss_nil)
        (pss_cons (ps_set (i := 5) scCls.nd rfl (.inl rfl) (pe_lst pa_nil))
        (pss_cons (ps_for PassesOwn.never rfl (pi_range1 (by rfl) T.range (pa_cons (pe_ix ix_tup (pv 0) pe_int (fun _ _ => rfl)) pa_nil)) (pg_name (i := 6) scCls.nd rfl (.inl rfl))
          (pss_one (ps_for PassesOwn.never rfl (pi_list (pv 3)) (pg_name (i := 7) scCls.nd rfl (.inl rfl))
            (pss_one (ps_expr (pe_bm PySem.F.plainAttrs_list PySem.F.slot_list_append PySem.F.type_list_append mt_append (pv 5) (pa_cons (pe_tup (pa_cons (pe_op op_add_str (pe_ix ix_str pe_str (pv 6) (fun _ _ => rfl)) (pe_ix ix_tup (pv 7) pe_int (fun _ _ => rfl))) (pa_cons (pe_call cBh.G hr2 rfl cBh.m cBh.kp cBh.b .nil pass0 (pa_cons (pe_ix ix_list (pe_ix ix_tup (pv 0) pe_int (fun _ _ => rfl)) (pv 6) (fun _ _ => rfl)) (pa_cons (pe_ix ix_tup (pv 7) pe_int (fun _ _ => rfl)) pa_nil))) pa_nil))) pa_nil)))))))
        (pss_one (ps_set (i := 3) scCls.nd rfl (.inl rfl) (pv 5))))))))
      (pss_one (ps_ret (pv 2))))), ?_⟩
    refine ⟨(by show 0 ≤ sizeLine; decide), fun F nF => ?_⟩
    have bF : Bld C Emp Emp H F [] (upd H F (.lst [])) := bld0 nF
    generalize upd H F (.lst []) = H1 at *
    have s1 := bF.k.same
    refine ⟨_, rfl, pq, _, 3, _, rfl, rfl, SqT.of (s1 _ _ h1), rfl, (by show 2 ≤ sizeLine; decide), fun t0 nt0 => ?_⟩
    have psF : pe ≠ F := ne_of_none hpe nF
    have s2 : Same H1 (upd H1 t0 (.tup [.str "", .ref pe])) := Same.upd nt0
    have ht0 : (upd H1 t0 (.tup [.str "", .ref pe])) t0 = some (.tup [.str "", .ref pe]) := upd_same
    have t0F : t0 ≠ F := fun e => by obtain ⟨_, h, _⟩ := bF.xs; rw [e, h] at nt0; cases nt0
    generalize upd H1 t0 (.tup [.str "", .ref pe]) = H2 at *
    refine ⟨(by show 1 ≤ sizeLine; decide), fun L nL => ?_⟩
    have s3 : Same H2 (upd H2 L (.lst [.ref t0])) := Same.upd nL
    have bF3 := (bF.same s2).same s3
    have LF : L ≠ F := fun e => by obtain ⟨_, h, _⟩ := (bF.same s2).xs; rw [e, h] at nL; cases nL
    have hL : At C (And1 Emp F) (upd H2 L (.lst [.ref t0])) (.ref L) (.lst (datW p.n (clI p) (clev p.k 0))) := .lst upd_same (fun z => z.elim id LF) rfl (items1 (at_prI (s3 _ _ ht0) (s3 _ _ (s2 _ _ (s1 _ _ hpe))) (fun z => z.elim id t0F) (fun z => z.elim id psF)))
    generalize upd H2 L (.lst [.ref t0]) = H3 at *
    refine ⟨_, rfl, len, rfl, by omega, by omega, for_range (n := len) (fun t σ G => ∃ F L o4 o5 o6 o7, σ = [some (.ref pq), some (.int (len : Int)), some (.ref F), some (.ref L), o4, o5, o6, o7] ∧ H F = none ∧ Bld C Emp Emp H F (datW p.n (clI p) (levs (clev p.k) t)) G ∧ At C (And1 Emp F) G (.ref L) (.lst (datW p.n (clI p) (clev p.k t)))) ⟨F, L, none, none, none, none, rfl, nF, bF3, hL⟩ ?_ ?_⟩
    · rintro t σ G ht ⟨F, L, o4, o5, o6, o7, rfl, nF, bF, hL⟩
      obtain ⟨acc, ys, a1, a2, a3, a4, bF1⟩ := bF.cat nF hL
      refine ⟨_, rfl, .inl ⟨rfl, _, SqL.of a1⟩, _, rfl, F, L, acc, ys, rfl, rfl, a1, a2, ?_, ?_⟩
      · rw [a3, a4]
        unfold datW
        rw [List.length_map, List.length_map, levs_len fun t => clev_len (k := p.k), clev_len]
        have := geo_le pb (t := t + 1) (by omega)
        have e : geo p.k (t + 1) = geo p.k t + p.k ^ t := rfl
        exact Nat.le_of_lt (small1000 (by omega))
      have hL1 := hL.keep (Keep.upd (N := And1 Emp F) (o := .lst (acc ++ ys)) (H := G) (.inr rfl))
      have eF : datW p.n (clI p) (levs (clev p.k) t) ++ datW p.n (clI p) (clev p.k t) = datW p.n (clI p) (levs (clev p.k) (t + 1)) := by unfold datW; rw [← List.map_append]; rfl
      rw [eF] at bF1
      generalize upd G F (.lst (acc ++ ys)) = G1 at *
      have sG1 := bF1.k.same
      refine ⟨_, rfl, _, _, rfl, rfl, _, rfl, rfl, _, rfl, ite2 (fun e => ?_) (fun e => ?_)⟩
      · have e : len = t + 1 := by
          have e := of_decide_eq_true e
          injection e with e
          omega
        subst e
        exact ⟨_, rfl, kk F G1 sG1 (bF1.done id)⟩
      · refine ⟨(by show 0 ≤ sizeLine; decide), fun X nX => ?_⟩
        have bX : Bld C Emp (And1 Emp F) G1 X (datW p.n (clI p) []) (upd G1 X (.lst [])) := bld0 nX
        obtain ⟨zs, hL, lz, eL⟩ := hL1.lstE
        have lz : zs.length = p.k ^ t := by rw [lz]; unfold datW; rw [List.length_map, clev_len]
        have ne : len ≠ t + 1 := fun z => e (by
          subst z
          refine decide_eq_true ?_
          show V.int ((0 + (t : Int)) + 1) = V.int ((t + 1 : Nat) : Int)
          congr 1
          omega)
        have sm : p.k ^ t * p.k ≤ 341 := by
          have h1 := geo_le pb (t := t + 2) (by omega)
          have h2 : geo p.k (t + 2) = geo p.k (t + 1) + p.k ^ (t + 1) := rfl
          rw [Nat.pow_succ] at h2
          omega
        have st : ∀ {b o}, H b = some o → G1 b = some o := fun h => sG1 _ _ h
        have hFG : ∃ acc, G1 F = some (.lst acc) := by obtain ⟨xs, hD, _⟩ := bF1.xs; exact ⟨xs, hD⟩
        have XF : X ≠ F := fun z => by obtain ⟨_, h⟩ := hFG; rw [z, h] at nX; cases nX
        generalize upd G1 X (.lst []) = G2 at *
        refine ⟨_, rfl, pq, _, 0, _, rfl, rfl, SqT.of (bX.k.same _ _ (st h1)), rfl, p.k, rfl, by omega, by omega, for_range (n := p.k) (fun x σ G => ∃ o4 o6 o7, σ = [some (.ref pq), some (.int (len : Int)), some (.ref F), some (.ref L), o4, some (.ref X), o6, o7] ∧ Bld C Emp (And1 Emp F) G1 X (datW p.n (clI p) ((List.range x).flatMap fun x => (clev p.k t).map fun u => x :: u)) G) ⟨_, _, _, rfl, bX⟩ ?_ ?_⟩
        · rintro y σ G3 hy ⟨o4, o6, o7, rfl, bX⟩
          have fl : ((List.range y).flatMap fun x => (clev p.k t).map fun u => x :: u).length = y * p.k ^ t := by
            rw [flat_len (c := p.k ^ t) (fun u _ => by rw [List.length_map, clev_len]), List.length_range]
          have ik : y * p.k ^ t + p.k ^ t ≤ 341 := by
            have : (y + 1) * p.k ^ t ≤ p.k * p.k ^ t := Nat.mul_le_mul_right _ hy
            rw [Nat.succ_mul] at this
            rw [Nat.mul_comm] at sm
            omega
          have nx : (List.range (y + 1)).flatMap (fun x => (clev p.k t).map fun u => x :: u) = ((List.range y).flatMap fun x => (clev p.k t).map fun u => x :: u) ++ (clev p.k t).map fun u => y :: u := by
            rw [List.range_succ, List.flatMap_append]
            simp
          rw [nx]
          generalize ((List.range y).flatMap fun x => (clev p.k t).map fun u => x :: u) = ws at *
          have sX := bX.k.same
          obtain ⟨ra, t1, t2⟩ := hta y hy
          refine ⟨_, rfl, L, rfl, ⟨_, SqL.of (sX _ _ hL)⟩, for_it (walk_list (a := L) (xs := zs)) (fun i σ G => ∃ o4 o7, σ = [some (.ref pq), some (.int (len : Int)), some (.ref F), some (.ref L), o4, some (.ref X), some (.int (y : Int)), o7] ∧ Bld C Emp (And1 Emp F) G1 X (datW p.n (clI p) (ws ++ ((clev p.k t).take i).map fun u => y :: u)) G) ⟨_, _, by rw [Int.zero_add]; rfl, by rw [List.take_zero, List.map_nil, List.append_nil]; exact bX⟩ (fun i _ G _ h => by obtain ⟨_, _, _, b⟩ := h; exact SqL.of (b.k.same _ _ hL)) ?_ ?_⟩
          · rintro i x σ G4 G4 hi ⟨o4, o7, rfl, bX⟩ ⟨rfl, hx⟩
            rw [lz] at hi
            have iw : i < (clev p.k t).length := by rw [clev_len]; exact hi
            obtain ⟨u, hu⟩ : ∃ u, (clev p.k t)[i]? = some u := ⟨_, List.getElem?_eq_getElem iw⟩
            have um := clev_mem (List.mem_of_getElem? hu)
            obtain ⟨tt, r, rfl, h5, h6, n1, n2⟩ := (eL i x (prI p.n u (clI p u)) hx (by unfold datW; rw [List.getElem?_map, hu]; rfl)).prI
            have l0 : ((clev p.k t).take i).length = i := by rw [List.length_take]; omega
            have sX := bX.k.same
            obtain ⟨ac0, hX, la, _⟩ := bX.xs
            have lu : (⟨#[97 + y]⟩ : Str).length + (wd u).length ≤ sizeLine := by
              rw [wd_len, um.1]
              exact Nat.le_of_lt (small1000 (by show 1 + t ≤ 1000; omega))
            refine ⟨_, rfl, .inl ⟨rfl, _, SqL.of hX⟩, _, rfl, _, _, 97 + y, rfl, rfl, abcd_len, abcd_at (by omega), _, rfl, tt, _, 0, _, rfl, rfl, SqT.of (sX _ _ h5), rfl, _, _, rfl, rfl, lu, ?_⟩
            refine ⟨_, rfl, pq, _, 2, _, rfl, rfl, SqT.of (sX _ _ (st h1)), rfl, _, rfl, pt, _, _, _, rfl, rfl, SqL.of (sX _ _ (st hpt)), at_of rfl (TabR.get hy), _, rfl, tt, _, 1, _, rfl, rfl, SqT.of (sX _ _ h5), rfl, ?_⟩
            refine ⟨r, ta y, p.n, 80 + 14 * 1000, 10, _, p.t y, rfl, sX _ _ h6, ⟨ra, sX _ _ (st t1), fun i hi => sX _ _ (st (t2 i hi))⟩, by omega, fun j hj => ?_, pb.t _ hy, by decide, by decide, fun r2 G5 s5 nr2 hr2 => ?_⟩
            · refine (clI_bt pb um.2 j hj).up ?_
              rw [um.1]
              omega
            refine ⟨(by show 2 ≤ sizeLine; decide), fun T nT => ?_⟩
            have e1 : ((⟨#[97 + y]⟩ : Str) ++ wd u) = wd (y :: u) := wd_append (u := [y])
            have hX5 := s5 _ _ hX
            have hF5 : ∃ acc, G5 F = some (.lst acc) := by obtain ⟨a, h⟩ := hFG; exact ⟨a, s5 _ _ (sX _ _ h)⟩
            have sT : Same G5 (upd G5 T (.tup [.str (wd (y :: u)), .ref r2])) := Same.upd nT
            have TF : T ≠ F := fun z => by obtain ⟨_, h⟩ := hF5; rw [z, h] at nT; cases nT
            have TX : T ≠ X := fun z => by rw [z, hX5] at nT; cases nT
            have r2F : r2 ≠ F := fun z => by obtain ⟨_, h⟩ := hFG; have := sX _ _ h; rw [z, this] at nr2; cases nr2
            have r2X : r2 ≠ X := fun z => by rw [z, hX] at nr2; cases nr2
            have hT : At C (And1 (And1 Emp F) X) (upd G5 T (.tup [.str (wd (y :: u)), .ref r2])) (.ref T) (prI p.n (y :: u) (clI p (y :: u))) :=
              at_prI upd_same (sT _ _ hr2) (fun z => z.elim (fun z => z.elim id TF) TX) (fun z => z.elim (fun z => z.elim id r2F) r2X)
            obtain ⟨acc, a1, a2, a3⟩ := bX.step nX (Same.keep (s5.trans sT)) (fun _ z => z.elim) id hT
            rw [e1]
            refine ⟨X, acc, .ref T, rfl, rfl, a1, ?_, ?_⟩
            · rw [a2]
              unfold datW
              rw [List.length_map, List.length_append, List.length_map, l0, fl]
              exact small1000 (by omega)
            · refine ⟨_, _, rfl, ?_⟩
              have e2 := datW_take (n := p.n) (val := clI p) (ws := ws) (f := fun u => y :: u) hu
              rw [e2]
              exact a3
          · rintro σ G4 ⟨o4, o7, rfl, bX⟩
            rw [lz, ← clev_len (k := p.k) (t := t), List.take_length] at bX
            exact ⟨_, _, _, rfl, bX⟩
        · rintro σ G3 ⟨o4, o6, o7, rfl, bX⟩
          exact ⟨_, rfl, F, X, _, _, _, _, rfl, nF, bF1.same bX.k.same, bX.done (fun z => z.elim id XF)⟩
    · rintro σ G ⟨F, L, o4, o5, o6, o7, rfl, nF, bF, hL⟩
      exact ⟨_, rfl, kk F G bF.k.same (bF.done id)⟩
end
end RX

set_option Elab.async false
set_option maxRecDepth 100000
/-! rows taken one after another: which of them is no sum of those before -/
namespace DT
def cv (v : Nat → Nat → Int) : Nat → Nat → Rat := fun i x => (v i x : Rat)
def Ind (n h : Nat) (v : Nat → Nat → Rat) : Prop := ∀ l, l < h → ¬ Spn n l v (v l)
theorem ind_ext {n h : Nat} {v w : Nat → Nat → Rat} (e : ∀ l, l < h → ∀ x, x < n → v l x = w l x) (i : Ind n h v) : Ind n h w := fun l hl s => i l hl (spn_congr (spn_ext s fun t ht x hx => (e t (by omega) x hx).symm) (e l hl))
/-- one row, and sums of the kept ones -/
def Rl (n j : Nat) (k : Nat → Nat → Int) (v z : Nat → Int) : Prop := ∃ (s : Rat) (c : Nat → Rat), s ≠ 0 ∧ ∀ x, x < n → (z x : Rat) = s * (v x : Rat) + sm j (fun t => c t * (k t x : Rat))
theorem rl0 {n : Nat} {k : Nat → Nat → Int} {v : Nat → Int} : Rl n 0 k v v := ⟨1, fun _ => 0, by decide, fun x _ => by show _ = 1 * (v x : Rat) + 0; rw [Rat.one_mul, Rat.add_zero]⟩
theorem df1 {a b z s v y : Rat} (h : z = s * v + y) (k : Rat) : a * z - b * k = a * s * v + (a * y + -b * k) := by subst h; grind
theorem Rl.step {n j : Nat} {k : Nat → Nat → Int} {v z z' : Nat → Int} {a b : Int} (h : Rl n j k v z) (a0 : a ≠ 0) (e : ∀ x, x < n → z' x = a * z x - b * k j x) : Rl n (j + 1) k v z' := by
  obtain ⟨s, c, s0, hz⟩ := h
  refine ⟨(a : Rat) * s, fun t => if t = j then -(b : Rat) else (a : Rat) * c t, rmul_ne (ic a0) s0, fun x hx => ?_⟩
  show _ = _ + (sm j (fun t => (if t = j then -(b : Rat) else (a : Rat) * c t) * (k t x : Rat)) + (if j = j then -(b : Rat) else (a : Rat) * c j) * (k j x : Rat))
  rw [if_pos rfl, sm_congr (g := fun t => (a : Rat) * (c t * (k t x : Rat))) fun t ht => by rw [if_neg (by omega)]; grind, sm_mul, e x hx, Rat.intCast_sub, Rat.intCast_mul, Rat.intCast_mul]
  exact df1 (hz x hx) _
theorem Rl.skip {n j : Nat} {k : Nat → Nat → Int} {v z : Nat → Int} (h : Rl n j k v z) : Rl n (j + 1) k v z := h.step (a := 1) (b := 0) (by decide) fun x _ => by rw [Int.one_mul, Int.zero_mul, Int.sub_zero]
theorem Rl.ext {n j : Nat} {k k' : Nat → Nat → Int} {v z : Nat → Int} (h : Rl n j k v z) (e : ∀ t, t < j → ∀ x, x < n → k' t x = k t x) : Rl n j k' v z := by
  obtain ⟨s, c, s0, hz⟩ := h
  exact ⟨s, c, s0, fun x hx => by rw [hz x hx, sm_congr (g := fun t => c t * (k' t x : Rat)) fun t ht => by rw [e t ht x hx]]⟩
structure Kp (n h m : Nat) (q : Nat → Nat) (k v : Nat → Nat → Int) : Prop where
  lt : ∀ t, t < m → q t < n
  ne : ∀ t, t < m → k t (q t) ≠ 0
  z : ∀ t, t < m → ∀ s, s < t → k t (q s) = 0
  vk : ∀ i, i < h → Spn n m (cv k) (cv v i)
  kv : ∀ t, t < m → Spn n h (cv v) (cv k t)
  cnt : m = h ↔ Ind n h (cv v)
  le : m ≤ h
theorem kp0 {n : Nat} {q : Nat → Nat} {k v : Nat → Nat → Int} : Kp n 0 0 q k v := by
  refine ⟨?_, ?_, ?_, ?_, ?_, ⟨fun _ l hl => absurd hl (by omega), fun _ => rfl⟩, Nat.le_refl _⟩
  all_goals (intro i hi; exact absurd hi (by omega))
variable {n h m : Nat} {q : Nat → Nat} {k v : Nat → Nat → Int}
theorem Kp.inj (b : Kp n h m q k v) {i j : Nat} (hi : i < m) (hj : j < m) (e : q i = q j) : i = j := by
  rcases Nat.lt_trichotomy i j with l | l | l
  · have := b.z j hj i l
    rw [e] at this
    exact absurd this (b.ne j hj)
  · exact l
  · have := b.z i hi j l
    rw [← e] at this
    exact absurd this (b.ne i hi)
theorem Kp.w (b : Kp n h m q k v) : m ≤ n := pig n m q b.lt fun _ hi _ hj e => b.inj hi hj e
/-- a sum of the kept rows that is 0 at all of their places is 0 -/
theorem Kp.tri (b : Kp n h m q k v) {u : Nat → Rat} (s : Spn n m (cv k) u) (z : ∀ t, t < m → u (q t) = 0) : ∀ x, x < n → u x = 0 := by
  obtain ⟨c, hc⟩ := s
  have c0 : ∀ d t, t < d → t < m → c t = 0 := fun d => by
    induction d with
    | zero => intro t h; exact absurd h (by omega)
    | succ d ih =>
      intro t ht hm
      have h1 := hc _ (b.lt t hm)
      rw [z t hm, sm_one (k := t) hm fun j hj ne => ?_] at h1
      · have h2 : (k t (q t) : Rat) ≠ 0 := ic (b.ne t hm)
        exact Classical.byContradiction fun n0 => rmul_ne n0 h2 h1.symm
      · show c j * (k j (q t) : Rat) = 0
        rcases Nat.lt_or_ge j t with l | l
        · rw [ih j (by omega) hj, Rat.zero_mul]
        · rw [b.z j hj t (by omega), Rat.intCast_zero, Rat.mul_zero]
  intro x hx
  rw [hc x hx]
  exact sm_zero fun t ht => by
    show c t * _ = 0
    rw [c0 (t + 1) t (by omega) ht, Rat.zero_mul]
theorem df2 {s v y i : Rat} (h : 0 = s * v + y) (e : i * s = 1) : v = -i * y := by grind
theorem df3 {z s v y i : Rat} (h : z = s * v + y) (e : i * s = 1) : v = i * z + -i * y := by grind
/-- nothing is left of the next row -/
theorem Kp.step0 (b : Kp n h m q k v) {z : Nat → Int} (r : Rl n m k (v h) z) (z0 : ∀ x, x < n → z x = 0) : Kp n (h + 1) m q k v := by
  have sp : Spn n m (cv k) (cv v h) := by
    obtain ⟨s, c, s0, hz⟩ := r
    have e : s⁻¹ * s = 1 := Rat.inv_mul_cancel _ s0
    refine ⟨fun t => -s⁻¹ * c t, fun x hx => ?_⟩
    have h1 := hz x hx
    rw [z0 x hx, Rat.intCast_zero] at h1
    show (v h x : Rat) = sm m (fun t => -s⁻¹ * c t * (k t x : Rat))
    rw [df2 h1 e, ← sm_mul]
    exact sm_congr fun t _ => (Rat.mul_assoc _ _ _).symm
  have le := b.le
  refine ⟨b.lt, b.ne, b.z, fun i hi => ?_, fun t ht => spn_more (b.kv t ht), ⟨fun e => by omega, fun i => ?_⟩, by omega⟩
  · by_cases e : i = h
    · rw [e]; exact sp
    · exact b.vk i (by omega)
  · exact absurd (spn_trans sp b.kv) (i h (by omega))
/-- something is left of it -/
theorem Kp.step1 (b : Kp n h m q k v) {z y : Nat → Int} {g : Int} {qm : Nat} {q' : Nat → Nat} {k' : Nat → Nat → Int} (r : Rl n m k (v h) z) (zq : ∀ t, t < m → z (q t) = 0) (hq : qm < n) (q0 : z qm ≠ 0) (g0 : g ≠ 0) (eg : ∀ x, x < n → z x = g * y x)
    (q1 : ∀ t, t < m → q' t = q t) (q2 : q' m = qm) (k1 : ∀ t, t < m → k' t = k t) (k2 : k' m = y) : Kp n (h + 1) (m + 1) q' k' v := by
  have le := b.le
  have nsp : ¬ Spn n h (cv v) (cv v h) := fun sp => by
    have s1 : Spn n m (cv k) (cv v h) := spn_trans sp b.vk
    have s2 : Spn n m (cv k) (fun x => (z x : Rat)) := by
      obtain ⟨s, c, s0, hz⟩ := r
      have h1 := spn_add (r := s) (s := 1) s1 (show Spn n m (cv k) (fun x => sm m (fun t => c t * (k t x : Rat))) from ⟨c, fun _ _ => rfl⟩)
      exact spn_congr h1 fun x hx => by rw [hz x hx, Rat.one_mul]; rfl
    have := b.tri s2 (fun t ht => by show (z (q t) : Rat) = 0; rw [zq t ht]; rfl) qm hq
    exact q0 (Rat.intCast_inj.mp (by rw [this]; rfl))
  have yq : ∀ x, x < n → z x = 0 → y x = 0 := fun x hx h0 => by
    have := eg x hx
    rw [h0] at this
    rcases Int.mul_eq_zero.mp this.symm with z | z
    · exact absurd z g0
    · exact z
  have ek : ∀ t, t < m → ∀ x, x < n → cv k t x = cv k' t x := fun t ht x _ => by show (k t x : Rat) = (k' t x : Rat); rw [k1 t ht]
  have gR : (g : Rat) ≠ 0 := ic g0
  have gi : (g : Rat)⁻¹ * g = 1 := Rat.inv_mul_cancel _ gR
  have ey : ∀ x, x < n → (y x : Rat) = (g : Rat)⁻¹ * (z x : Rat) := fun x hx => by
    rw [eg x hx, Rat.intCast_mul, ← Rat.mul_assoc, gi, Rat.one_mul]
  refine ⟨fun t ht => ?_, fun t ht => ?_, fun t ht s hs => ?_, fun i hi => ?_, fun t ht => ?_, ⟨fun e l hl => ?_, fun i => ?_⟩, by omega⟩
  · by_cases e : t = m
    · rw [e, q2]; exact hq
    · rw [q1 t (by omega)]; exact b.lt t (by omega)
  · by_cases e : t = m
    · rw [e, q2, k2]
      intro y0
      have := eg qm hq
      rw [y0, Int.mul_zero] at this
      exact q0 this
    · rw [q1 t (by omega), k1 t (by omega)]; exact b.ne t (by omega)
  · by_cases e : t = m
    · rw [e, k2, q1 s (by omega)]
      exact yq _ (b.lt s (by omega)) (zq s (by omega))
    · rw [q1 s (by omega), k1 t (by omega)]; exact b.z t (by omega) s hs
  · by_cases e : i = h
    · rw [e]
      obtain ⟨s, c, s0, hz⟩ := r
      have is : s⁻¹ * s = 1 := Rat.inv_mul_cancel _ s0
      have h1 : Spn n (m + 1) (cv k') (fun x => (y x : Rat)) := spn_congr (spn_in (i := m) (by omega)) fun x _ => by show _ = (k' m x : Rat); rw [k2]
      have h2 : Spn n (m + 1) (cv k') (fun x => sm m (fun t => c t * (k t x : Rat))) := spn_more (spn_ext ⟨c, fun _ _ => rfl⟩ ek)
      refine spn_congr (spn_add (r := s⁻¹ * g) (s := -s⁻¹) h1 h2) fun x hx => ?_
      show (v h x : Rat) = _
      rw [Rat.mul_assoc, show (g : Rat) * (y x : Rat) = (z x : Rat) by rw [eg x hx, Rat.intCast_mul]]
      exact df3 (hz x hx) is
    · exact spn_more (spn_ext (b.vk i (by omega)) ek)
  · by_cases e : t = m
    · rw [e]
      obtain ⟨s, c, s0, hz⟩ := r
      have h1 : Spn n (h + 1) (cv v) (fun x => sm m (fun t => c t * cv k t x)) := spn_more (spn_lin b.kv)
      refine spn_congr (spn_add (r := (g : Rat)⁻¹ * s) (s := (g : Rat)⁻¹) (spn_in (a := cv v) (i := h) (k := h + 1) (by omega)) h1) fun x hx => ?_
      show (k' m x : Rat) = _
      rw [k2, ey x hx, hz x hx, Rat.mul_add, Rat.mul_assoc]
      rfl
    · exact spn_more (spn_congr (b.kv t (by omega)) fun x hx => (ek t (by omega) x hx).symm)
  · by_cases el : l = h
    · rw [el]; exact nsp
    · exact b.cnt.mp (by omega) l (by omega)
  · have := b.cnt.mpr fun l hl => i l (by omega)
    omega
end DT

set_option Elab.async false
set_option maxRecDepth 100000
/-! how many rows can be independent; rows and columns of one table -/
namespace DT
theorem spn_width {n k : Nat} {a : Nat → Nat → Rat} {u : Nat → Rat} (h : Spn n k a u) (z : ∀ t, t < k → a t n = 0) (uz : u n = 0) : Spn (n + 1) k a u := by
  obtain ⟨c, hc⟩ := h
  refine ⟨c, fun x hx => ?_⟩
  by_cases e : x = n
  · rw [e, uz, sm_zero fun t ht => by show c t * a t n = 0; rw [z t ht, Rat.mul_zero]]
  · exact hc x (by omega)
theorem lg1 {v w c y : Rat} (h : w = v - c * y) : v = 1 * w + c * y := by grind
/-- no more independent rows than they are wide -/
theorem ind_le : ∀ {n h : Nat} {v : Nat → Nat → Rat}, Ind n h v → h ≤ n
  | 0, h, v, i => Classical.byContradiction fun c => i 0 (by omega) ⟨fun _ => 0, fun x hx => absurd hx (by omega)⟩
  | n + 1, h, v, i => by
    by_cases e : ∃ j, j < h ∧ v j n ≠ 0
    · -- the least one
      obtain ⟨j0, hj0, e0⟩ := e
      obtain ⟨j, hj, ej, least⟩ : ∃ j, j < h ∧ v j n ≠ 0 ∧ ∀ t, t < j → v t n = 0 := by
        have key : ∀ d j0, j0 ≤ d → j0 < h → v j0 n ≠ 0 → ∃ j, j < h ∧ v j n ≠ 0 ∧ ∀ t, t < j → v t n = 0 := fun d => by
          induction d with
          | zero => intro j0 h1 h2 h3; exact ⟨j0, h2, h3, fun t ht => absurd ht (by omega)⟩
          | succ d ih =>
            intro j0 h1 h2 h3
            by_cases q : ∃ t, t < j0 ∧ v t n ≠ 0
            · obtain ⟨t, ht, et⟩ := q
              exact ih t (by omega) (by omega) et
            · exact ⟨j0, h2, h3, fun t ht => Classical.byContradiction fun z => q ⟨t, ht, z⟩⟩
        exact key j0 j0 (Nat.le_refl _) hj0 e0
      have inv : (v j n)⁻¹ * v j n = 1 := Rat.inv_mul_cancel _ ej
      have := ind_le (n := n) (h := h - 1) (v := fun t x => v (skp j t) x - v (skp j t) n * (v j n)⁻¹ * v j x) fun l hl s => by
        have wz : ∀ t, v (skp j t) n - v (skp j t) n * (v j n)⁻¹ * v j n = 0 := fun t => by
          rw [Rat.mul_assoc, inv, Rat.mul_one, Rat.sub_self]
        have s2 := spn_width s (fun t _ => wz t) (wz l)
        -- all of them lie in the span of the rows before skp j l
        have kl : skp j l < h := by have := skp_lt (j := j) (k := l) (n := h - 1) hl; omega
        refine i (skp j l) kl ?_
        by_cases lj : l < j
        · have e1 : ∀ t, t ≤ l → skp j t = t := fun t ht => by unfold skp; rw [if_pos (by omega)]
          have z1 : ∀ t, t ≤ l → ∀ x, v (skp j t) x - v (skp j t) n * (v j n)⁻¹ * v j x = v t x := fun t ht x => by
            rw [e1 t ht, least t (by omega), Rat.zero_mul, Rat.zero_mul, Rat.sub_eq_add_neg, Rat.neg_zero, Rat.add_zero]
          rw [e1 l (Nat.le_refl _)]
          exact spn_congr (spn_ext s2 fun t ht x _ => z1 t (by omega) x) fun x _ => (z1 l (Nat.le_refl _) x).symm
        · have el : skp j l = l + 1 := by unfold skp; rw [if_neg lj]
          have js : Spn (n + 1) (skp j l) v (v j) := spn_in (by rw [el]; omega)
          have each : ∀ t, t < l → Spn (n + 1) (skp j l) v (fun x => v (skp j t) x - v (skp j t) n * (v j n)⁻¹ * v j x) := fun t ht => by
            have st : Spn (n + 1) (skp j l) v (v (skp j t)) := spn_in (by rw [el]; unfold skp; split <;> omega)
            refine spn_congr (spn_add (r := 1) (s := -(v (skp j t) n * (v j n)⁻¹)) st js) fun x _ => ?_
            grind
          have s3 := spn_trans s2 each
          refine spn_congr (spn_add (r := 1) (s := v (skp j l) n * (v j n)⁻¹) s3 js) fun x _ => ?_
          exact lg1 rfl
      omega
    · have z : ∀ t, t < h → v t n = 0 := fun t ht => Classical.byContradiction fun q => e ⟨t, ht, q⟩
      have := ind_le (n := n) (h := h) (v := v) fun l hl s => i l hl (spn_width s (fun t ht => z t (by omega)) (z l hl))
      omega
/-- U, independent over the columns cb; the columns of S, over the rows ab, give all columns; ab gives all rows -/
theorem wf_le {nU nS nC nA : Nat} {N : Nat → Nat → Rat} {TU : Nat → Nat → Rat} {AS : Nat → Nat → Rat} {AC : Nat → Nat → Rat}
    (hU : Ind nC nU TU) (hA : ∀ u, u < nU → ∃ e : Nat → Rat, (∀ c, c < nC → TU u c = sm nA fun a => e a * AC a c) ∧ ∀ s, s < nS → N u s = sm nA fun a => e a * AS a s)
    (hS : ∀ c, c < nC → ∃ d : Nat → Rat, ∀ a, a < nA → AC a c = sm nS fun s => d s * AS a s) : nU ≤ nS := by
  have key : ∀ u, u < nU → ∀ c (hc : c < nC), TU u c = sm nS fun s => (hS c hc).choose s * N u s := fun u hu c hc => by
    obtain ⟨e, e1, e2⟩ := hA u hu
    have hd := (hS c hc).choose_spec
    rw [e1 c hc, sm_congr (g := fun a => sm nS fun s => e a * ((hS c hc).choose s * AS a s)) fun a ha => by rw [hd a ha, sm_mul], sm_swap]
    refine sm_congr fun s hs => ?_
    rw [e2 s hs, ← sm_mul]
    exact sm_congr fun a _ => by grind
  refine ind_le (n := nS) (h := nU) (v := N) fun l hl sp => hU l hl ?_
  obtain ⟨la, hla⟩ := sp
  refine ⟨la, fun c hc => ?_⟩
  rw [key l hl c hc, sm_congr (g := fun s => sm l fun t => (hS c hc).choose s * (la t * N t s)) fun s hs => by rw [hla s hs, sm_mul], sm_swap]
  refine sm_congr fun t ht => ?_
  rw [key t (by omega) c hc, ← sm_mul]
  exact sm_congr fun s _ => by grind
theorem Kp.ext {n h m : Nat} {q : Nat → Nat} {k v v' : Nat → Nat → Int} (b : Kp n h m q k v) (e : ∀ i, i < h → v' i = v i) : Kp n h m q k v' := by
  have ec : ∀ i, i < h → cv v' i = cv v i := fun i hi => by unfold cv; rw [e i hi]
  refine ⟨b.lt, b.ne, b.z, fun i hi => by rw [ec i hi]; exact b.vk i hi, fun t ht => spn_ext (b.kv t ht) fun i hi x _ => by rw [ec i hi], b.cnt.trans ⟨fun i => ind_ext (fun l hl x _ => by rw [ec l hl]) i, fun i => ind_ext (fun l hl x _ => by rw [ec l hl]) i⟩, b.le⟩
end DT

set_option Elab.async false
set_option maxRecDepth 100000
namespace RX
open PySem L2 LX VA VM VN
open RQ (Hg Bt)
/-! ### the first rows of which none is a sum of those before -/
abbrev sFi1 : Stmt := topS 65
theorem scFi1 : FnScope ["pairs", "kept", "found", "pair", "rest", "place", "other", "one", "two", "places", "shared", "number", "k"] ["pairs"] (defScope sFi1) := ⟨rfl, rfl, rfl, by decide +kernel, rfl, by decide +kernel, by decide +kernel⟩
def kD (n m : Nat) (q : Nat → Nat) (k : Nat → Nat → Int) : List Dat := rng m fun t => .tup [.int (q t : Int), intL n (k t)]
theorem At.prK {C : Addr} {N : Addr → Prop} {H : Hp} {v : V} {n : Nat} {q : Int} {z : Nat → Int} (h : At C N H v (.tup [.int q, intL n z])) : ∃ t r, v = .ref t ∧ H t = some (.tup [.int q, .ref r]) ∧ H r = some (.lst (iV n z)) := by
  obtain ⟨t, rfl⟩ := h.tupV
  obtain ⟨xs, hp, l, e⟩ := h.tupE
  match xs, l with
  | [x, y], _ =>
    have h0 := (e 0 x _ rfl rfl).intV
    have h1 := e 1 y _ rfl rfl
    subst h0
    obtain ⟨r, rfl⟩ := h1.lstV
    exact ⟨t, r, rfl, hp, h1.ints⟩
theorem at_prK {C : Addr} {N : Addr → Prop} {H : Hp} {t r : Addr} {n : Nat} {q : Int} {z : Nat → Int} (h : H t = some (.tup [.int q, .ref r])) (h2 : H r = some (.lst (iV n z))) (n1 : ¬ N t) (n2 : ¬ N r) : At C N H (.ref t) (.tup [.int q, intL n z]) :=
  .tup h n1 rfl (itemsC (.int _) (items1 (at_ints h2 n2)))
theorem Bld.kp {C : Addr} {M N : Addr → Prop} {H0 H2 H3 : Hp} {D : Addr} {ds : List Dat} (B : Bld C M N H0 D ds H2) (k : Keep M H2 H3) (s : ∀ b, M b → N b) (nD : ¬ M D) : Bld C M N H0 D ds H3 := by
  obtain ⟨xs, hD, l, e⟩ := B.xs
  exact ⟨⟨xs, k.k _ _ hD nD, l, fun i x d h1 h2 => (e i x d h1 h2).keep (k.more fun b z => .inl (s b z))⟩, B.k.trans k⟩
def rho (b : Nat) : Nat → Nat
  | 0 => b
  | j + 1 => 2 * rho b j + 1
theorem rho_mono {b j : Nat} : ∀ {m : Nat}, j ≤ m → rho b j ≤ rho b m
  | 0, h => by rw [show j = 0 by omega]; exact Nat.le_refl _
  | m + 1, h => by
    by_cases e : j = m + 1
    · rw [e]; exact Nat.le_refl _
    · have := rho_mono (b := b) (j := j) (m := m) (by omega)
      show _ ≤ 2 * rho b m + 1
      omega
theorem rho_le {b : Nat} : ∀ {j : Nat}, rho b j + 1 = 2 ^ j * (b + 1)
  | 0 => by rw [Nat.pow_zero, Nat.one_mul]; rfl
  | j + 1 => by
    show 2 * rho b j + 1 + 1 = _
    have := rho_le (b := b) (j := j)
    rw [Nat.pow_succ, Nat.mul_right_comm, ← this]
    omega
theorem rho_hg {b j : Nat} (h : j ≤ 12) (hb : b ≤ 14000) : rho b j ≤ 60000000 := by
  have h1 := rho_mono (b := b) h
  have h2 := rho_le (b := b) (j := 12)
  rw [show (2 : Nat) ^ 12 = 4096 from rfl] at h2
  omega
def vw (val : List Nat → Nat → Int) (ws : List (List Nat)) : Nat → Nat → Int := fun i => val (ws.getD i [])
theorem vw_lt {val : List Nat → Nat → Int} {us : List (List Nat)} {u : List Nat} {i : Nat} (h : i < us.length) : vw val (us ++ [u]) i = vw val us i := by unfold vw; rw [List.getD_eq_getElem?_getD, List.getD_eq_getElem?_getD, List.getElem?_append_left h]
theorem vw_eq {val : List Nat → Nat → Int} {us : List (List Nat)} {u : List Nat} : vw val (us ++ [u]) us.length = val u := by unfold vw; rw [List.getD_eq_getElem?_getD, List.getElem?_append_right (Nat.le_refl _), Nat.sub_self]; rfl
def IndW (n : Nat) (val : List Nat → Nat → Int) (ws : List (List Nat)) : Prop := DT.Ind n ws.length (DT.cv (vw val ws))
def spFi1 (C : Addr) : Sp := fun vs H Q _ => ∃ (p : Addr) (n b : Nat) (val : List Nat → Nat → Int) (ws : List (List Nat)), vs = [.ref p] ∧ At C Emp H (.ref p) (.lst (datW n val ws)) ∧ n ≤ 12 ∧ ws.length ≤ 1000 ∧ (∀ u ∈ ws, ∀ x, x < n → Bt b (val u x)) ∧ b ≤ 14000 ∧
  ∀ (r : Addr) (H' : Hp) (ws' : List (List Nat)), Same H H' → At C Emp H' (.ref r) (.lst (datW n val ws')) → (∀ u ∈ ws', u ∈ ws) → ws'.length ≤ n → (ws'.length = ws.length ↔ IndW n val ws) → IndW n val ws' → (∀ u ∈ ws, DT.Spn n ws'.length (DT.cv (vw val ws')) (fun x => (val u x : Rat))) → Q (.ref r) H'
section
variable {P : Program} {w : World} {K : PySem.W.Frag} {mg : Str → Option Value} {base : Heap}
theorem ok_fi1 (B : PL.Big P base) {f fS C : Addr} {fd dS : FuncData} (F : Fun K "_law_first" "_law_first" sFi1 f fd) (T : TxtL mg) (cSh : CalN P w K mg base "_law_shared" 1 ["one", "other"] spShr fS dS) : FnOk P w K mg base CX0 33 f fd ["pairs"] (spFi1 C) := by
  refine F.ok scFi1 (fun vs H Q E h => ?_) (fun cdv A outer s H vs Q E hr h => ?_)
  · obtain ⟨p, n, b, val, ws, rfl, _⟩ := h
    rfl
  · obtain ⟨p, n, b, val, ws, rfl, hp, hn, hw, hb, b1, kk⟩ := h
    have hr32 : Room 32 _ := hr
    have hr1 : Room 1 _ := hr.mono (by decide)
    obtain ⟨zs, hz, lz, ez⟩ := hp.lstE
    have lz : zs.length = ws.length := by rw [lz]; unfold datW; rw [List.length_map]
    refine ⟨_, pss_cons (ps_set (i := 1) scFi1.nd rfl (.inl rfl) (pe_lst pa_nil))
      (pss_cons (ps_set (i := 2) scFi1.nd rfl (.inl rfl) (pe_lst pa_nil))
      (pss_cons (ps_for PassesOwn.never rfl (pi_list (pv 0)) (pg_name (i := 3) scFi1.nd rfl (.inl rfl))
        (pss_cons (ps_set (i := 4) scFi1.nd rfl (.inr rfl) (pe_ix ix_tup (pv 3) pe_int (fun _ _ => rfl)))
        (pss_cons (ps_for PassesOwn.never rfl (pi_list (pv 1)) (pg_tup rfl (pgs_cons (pg_name (i := 5) scFi1.nd rfl (.inl rfl)) (pgs_cons (pg_name (i := 6) scFi1.nd rfl (.inr rfl)) pgs_nil)))
          (pss_one (ps_if (pt_cmpR op_ne (pe_ix ix_list (pv 4) (pv 5) (fun _ _ => rfl)) pe_int (nomark _))
            (pss_cons (ps_set (i := 7) scFi1.nd rfl (.inr rfl) (pe_ix ix_list (pv 6) (pv 5) (fun _ _ => rfl)))
            (pss_cons (ps_set (i := 8) scFi1.nd rfl (.inr rfl) (pe_ix ix_list (pv 4) (pv 5) (fun _ _ => rfl)))
            (pss_one (ps_set (i := 4) scFi1.nd rfl (.inr rfl) (pe_lc (own := [("k", 12)]) (g := gName 12) (tt := tYes) rfl scFi1.nd (pi_range1 (by rfl) T.range (pa_cons (pe_callB call_len_seq (by rfl) T.len PySem.boot_len (pa_cons (pv 4) pa_nil)) pa_nil)) (blkOk_by (N := ["pairs", "kept", "found", "pair", "rest", "place", "other", "one", "two", "places", "shared", "number", "k"]) (sc := (defScope sFi1)) (by decide +kernel)) (fun _ _ _ _ _ => (pg_name (i := 12) scFi1.nd rfl (.inl rfl))) (fun _ _ _ _ _ => pts_nil) (fun _ _ _ _ _ => (pe_op op_sub (pe_op RQ.op_mulH (pv 7) (pe_ix (show IxR _ (rIxL K) from ix_list) (pv 4) (pv 12) (fun _ _ => rfl))) (pe_op RQ.op_mulH (pv 8) (pe_ix (show IxR _ (rIxL K) from ix_list) (pv 6) (pv 12) (fun _ _ => rfl))))))))))
            pss_nil)))
        (pss_cons (ps_setLc (i := 9) (own := [("k", 12)]) (g := gName 12) rfl scFi1.nd rfl rfl (sw_true rfl rfl rfl (by decide +kernel)) (pi_range1 (by rfl) T.range (pa_cons (pe_callB call_len_seq (by rfl) T.len PySem.boot_len (pa_cons (pv 4) pa_nil)) pa_nil)) (blkOk_by (N := ["pairs", "kept", "found", "pair", "rest", "place", "other", "one", "two", "places", "shared", "number", "k"]) (sc := (defScope sFi1)) (by decide +kernel)) (fun _ _ _ _ _ => (pg_name (i := 12) scFi1.nd rfl (.inl rfl))) (fun _ _ _ _ _ => pts_one (pt_cmpR op_ne (pe_ix (show IxR _ (rIxL K) from ix_list) (pv 4) (pv 12) (fun _ _ => rfl)) pe_int (nomark _))) (fun _ _ _ _ _ => (pv 12)))
        (pss_one (ps_if (pt_cmpR op_gt (pe_callB call_len_seq (by rfl) T.len PySem.boot_len (pa_cons (pv 9) pa_nil)) pe_int (nomark _))
          (pss_cons (ps_set (i := 10) scFi1.nd rfl (.inr rfl) pe_int)
          (pss_cons (ps_for PassesOwn.never rfl (pi_list (pv 4)) (pg_name (i := 11) scFi1.nd rfl (.inl rfl))
            (pss_one (ps_set (i := 10) scFi1.nd rfl (.inr rfl) (pe_call cSh.G hr1 rfl cSh.m cSh.kp cSh.b .nil pass0 (pa_cons (pv 10) (pa_cons (pv 11) pa_nil))))))
          (pss_cons (ps_expr (pe_bm PySem.F.plainAttrs_list PySem.F.slot_list_append PySem.F.type_list_append mt_append (pv 1) (pa_cons (pe_tup (pa_cons (pe_ix ix_list (pv 9) pe_int (fun _ _ => rfl)) (pa_cons (pe_lc (own := [("number", 11)]) (g := gName 11) (tt := tYes) rfl scFi1.nd (pi_list (pv 4)) (blkOk_by (N := ["pairs", "kept", "found", "pair", "rest", "place", "other", "one", "two", "places", "shared", "number", "k"]) (sc := (defScope sFi1)) (by decide +kernel)) (fun _ _ _ _ _ => (pg_name (i := 11) scFi1.nd rfl (.inl rfl))) (fun _ _ _ _ _ => pts_nil) (fun _ _ _ _ _ => (pe_op (PL.op_fdivP B hr32 ⟨_, _, rfl, rfl, rfl, rfl, rfl⟩) (pv 11) (pv 10)))) pa_nil))) pa_nil)))
          (pss_one (ps_expr (pe_bm PySem.F.plainAttrs_list PySem.F.slot_list_append PySem.F.type_list_append mt_append (pv 2) (pa_cons (pv 3) pa_nil)))))))
          pss_nil))))))
      (pss_one (ps_ret (pv 2))))), ?_⟩
    refine ⟨(by show 0 ≤ sizeLine; decide), fun D nD => ?_⟩
    have s1 : Same H (upd H D (.lst [])) := Same.upd nD
    have hD1 : (upd H D (.lst [])) D = some (.lst []) := upd_same
    generalize upd H D (.lst []) = H1 at *
    refine ⟨(by show 0 ≤ sizeLine; decide), fun F nF => ?_⟩
    have s2 : Same H1 (upd H1 F (.lst [])) := Same.upd nF
    have hF2 : (upd H1 F (.lst [])) F = some (.lst []) := upd_same
    generalize upd H1 F (.lst []) = H2 at *
    have FD : F ≠ D := fun e => by rw [e, hD1] at nF; cases nF
    have nF0 : H F = none := s1.free nF
    have bD0 : Bld C (And1 Emp F) (And1 Emp F) H D (kD n 0 (fun _ => 0) fun _ _ => 0) H2 := ⟨⟨[], s2 _ _ hD1, rfl, fun i x d h => by simp at h⟩, Same.keep (s1.trans s2)⟩
    have bF0 : Bld C (And1 Emp D) (And1 Emp D) H F (datW n val []) H2 := ⟨⟨[], hF2, rfl, fun i x d h => by simp at h⟩, Same.keep (s1.trans s2)⟩
    have lkF : ∀ {G : Hp}, Keep (And1 Emp D) H G → Same H G := fun k b o h => k.k b o h fun z => z.elim id (ne_of_none h nD)
    refine ⟨_, rfl, p, rfl, ⟨_, SqL.of ((s1.trans s2) _ _ hz)⟩, for_it (walk_list (a := p) (xs := zs)) (fun i σ G => ∃ (m : Nat) (q : Nat → Nat) (k : Nat → Nat → Int) (us : List (List Nat)) (o3 o4 o5 o6 o7 o8 o9 o10 o11 : Option V), σ = [some (.ref p), some (.ref D), some (.ref F), o3, o4, o5, o6, o7, o8, o9, o10, o11, none] ∧
        Bld C (And1 Emp F) (And1 Emp F) H D (kD n m q k) G ∧ Bld C (And1 Emp D) (And1 Emp D) H F (datW n val us) G ∧ DT.Kp n i m q k (vw val ws) ∧ DT.Kp n m m q k (vw val us) ∧ (∀ t, t < m → ∀ x, x < n → Bt (rho b t) (k t x)) ∧ us.length = m ∧ ∀ u ∈ us, u ∈ ws)
      ⟨0, _, _, [], _, _, _, _, _, _, _, _, _, rfl, bD0, bF0, DT.kp0, DT.kp0, fun t ht => absurd ht (by omega), rfl, fun u hu => absurd hu List.not_mem_nil⟩ (fun i σ G _ h => ?_) ?_ ?_⟩
    · obtain ⟨_, _, _, _, _, _, _, _, _, _, _, _, _, _, _, bF, _⟩ := h
      exact SqL.of (lkF bF.k _ _ hz)
    · rintro i x σ G G hi ⟨m, q, k, us, o3, o4, o5, o6, o7, o8, o9, o10, o11, rfl, bD, bF, kp, kq, bk, lu, mu⟩ ⟨rfl, hx⟩
      rw [lz] at hi
      obtain ⟨u, hu⟩ : ∃ u, ws[i]? = some u := ⟨_, List.getElem?_eq_getElem hi⟩
      have um : u ∈ ws := List.mem_of_getElem? hu
      have hat := ez i x (prI n u (val u)) hx (by unfold datW; rw [List.getElem?_map, hu]; rfl)
      have hatF := bF.old nF0 (fun _ z => z) (hat.and nD)
      obtain ⟨tt, r, rfl, h5, h6, _, _⟩ := hat.prI
      have sG := lkF bF.k
      have vwi : vw val ws i = val u := by unfold vw; rw [List.getD_eq_getElem?_getD, hu]; rfl
      have m12 : m ≤ 12 := Nat.le_trans kp.w hn
      obtain ⟨xs, hD, lx, ex⟩ := bD.xs
      have lx : xs.length = m := by rw [lx]; exact rng_len
      refine ⟨_, rfl, tt, _, 1, _, rfl, rfl, SqT.of (sG _ _ h5), rfl, ?_⟩
      refine ⟨_, rfl, D, rfl, ⟨_, SqL.of hD⟩, for_it (walk_list (a := D) (xs := xs)) (fun j σ G1 => ∃ (r : Addr) (z : Nat → Int) (o5 o6 o7 o8 : Option V), σ = [some (.ref p), some (.ref D), some (.ref F), some (.ref tt), some (.ref r), o5, o6, o7, o8, o9, o10, o11, none] ∧ Same G G1 ∧ G1 r = some (.lst (iV n z)) ∧ DT.Rl n j k (val u) z ∧ (∀ t, t < j → z (q t) = 0) ∧ ∀ x, x < n → Bt (rho b j) (z x))
        ⟨r, val u, _, _, _, _, rfl, Same.refl _, sG _ _ h6, DT.rl0, fun t ht => absurd ht (by omega), hb u um⟩ (fun j σ G1 _ h => ?_) ?_ ?_⟩
      · obtain ⟨_, _, _, _, _, _, _, s, _⟩ := h
        exact SqL.of (s _ _ hD)
      · rintro j x σ G1 G1 hj ⟨r, z, o5, o6, o7, o8, rfl, s3, hr3, rl, zq, bz⟩ ⟨rfl, hx2⟩
        rw [lx] at hj
        obtain ⟨t2, r2, rfl, h7, h8⟩ := (ex j x _ hx2 (rng_get hj)).prK
        have h7 := s3 _ _ h7
        have h8 := s3 _ _ h8
        have qj := kp.lt j hj
        refine ⟨t2, _, rfl, SqT.of h7, rfl, _, _, rfl, _, _, rfl, rfl, ?_⟩
        have hg : Hg (z (q j)) := (bz _ qj).hg (rho_hg (by omega) b1)
        have hg2 : ∀ x, x < n → Hg (k j x) := fun x hx => (bk j hj x hx).hg (rho_hg (by omega) b1)
        have hg3 : ∀ x, x < n → Hg (z x) := fun x hx => (bz x hx).hg (rho_hg (by omega) b1)
        refine ⟨_, rfl, _, rfl, r, _, _, _, rfl, rfl, SqL.of hr3, at_of rfl (iV_get qj), rfl, _, rfl, ite2 (fun _ => ?_) (fun e => ?_)⟩
        · refine ⟨_, rfl, _, rfl, r2, _, _, _, rfl, rfl, SqL.of h8, at_of rfl (iV_get qj), ?_⟩
          refine ⟨_, rfl, _, rfl, r, _, _, _, rfl, rfl, SqL.of hr3, at_of rfl (iV_get qj), ?_⟩
          refine ⟨_, rfl, r, _, rfl, .inl (SqL.of hr3), n, by rw [iV_len], by omega, by omega, fun E nE => ?_⟩
          refine lc_it (walk_range (lo := 0) (n := n)) (fun x G => G E = some (.lst (iV x fun x => k j (q j) * z x - z (q j) * k j x)) ∧ Same G1 G) ⟨upd_same, Same.upd nE⟩ (fun _ _ _ _ => trivial) ?_ ?_
          · rintro x v G2 G3 hx ⟨hE, s4⟩ ⟨rfl, rfl⟩
            refine ⟨rfl, _, rfl, _, rfl, _, rfl, r, _, _, _, rfl, rfl, SqL.of (s4 _ _ hr3), at_of (Int.zero_add _) (iV_get hx), _, _, rfl, rfl, ⟨hg2 _ qj, hg3 x hx⟩, ?_⟩
            refine ⟨_, rfl, _, rfl, _, rfl, r2, _, _, _, rfl, rfl, SqL.of (s4 _ _ h8), at_of (Int.zero_add _) (iV_get hx), _, _, rfl, rfl, ⟨hg, hg2 x hx⟩, _, _, rfl, rfl, _, hE, ?_, ?_, fun b o hc => ?_⟩
            · rw [iV_len]; exact small1000 (by omega)
            · rw [upd_same, iV_succ]
            · rw [upd_ne (ne_of_none hc nE)]
              exact s4 _ _ hc
          · rintro G2 ⟨hE, s4⟩
            refine ⟨E, _, _, _, _, _, rfl, s3.trans s4, hE, rl.step (kp.ne j hj) fun x _ => rfl, fun t ht => ?_, fun x hx => ?_⟩
            · by_cases e : t = j
              · show k j (q j) * z (q t) - z (q j) * k j (q t) = 0
                rw [e, Int.mul_comm, Int.sub_self]
              · show k j (q j) * z (q t) - z (q j) * k j (q t) = 0
                rw [zq t (by omega), kp.z j hj t (by omega), Int.mul_zero, Int.mul_zero, Int.sub_zero]
            · have h1 := (bk j hj _ qj).mul (bz x hx)
              have h2 := (bz _ qj).mul (bk j hj x hx)
              rw [← Nat.two_mul] at h1 h2
              exact h1.sub h2
        · have z0 : z (q j) = 0 := Classical.byContradiction fun ne => e (by
            show (!decide (V.int (z (q j)) = V.int 0)) = true
            rw [decide_eq_false (fun h => ne (by injection h))]
            rfl)
          refine ⟨r, z, _, _, _, _, rfl, s3, hr3, rl.skip, fun t ht => ?_, fun x hx => (bz x hx).up (by show _ ≤ 2 * rho b j + 1; omega)⟩
          by_cases e : t = j
          · rw [e]; exact z0
          · exact zq t (by omega)
      · rintro σ G1 ⟨r, z, o5, o6, o7, o8, rfl, s3, hr3, rl, zq, bz⟩
        rw [lx] at rl zq bz
        have rl2 := rl
        rw [← vwi] at rl
        refine ⟨_, rfl, r, _, rfl, .inl (SqL.of hr3), n, by rw [iV_len], by omega, by omega, fun E nE => ?_⟩
        refine lc_it (walk_range (lo := 0) (n := n)) (fun x G => ∃ pl : List Nat, G E = some (.lst (pl.map fun x : Nat => V.int (x : Int))) ∧ Same G1 G ∧ pl.length ≤ x ∧ (∀ y ∈ pl, y < x ∧ z y ≠ 0) ∧ (pl = [] → ∀ y, y < x → z y = 0)) ⟨[], upd_same, Same.upd nE, Nat.le_refl _, fun y hy => absurd hy List.not_mem_nil, fun _ y hy => absurd hy (by omega)⟩ (fun _ _ _ _ => trivial) ?_ ?_
        · rintro x v G2 G3 hx ⟨pl, hE, s4, l1, l2, l3⟩ ⟨rfl, rfl⟩
          refine ⟨rfl, _, rfl, _, rfl, r, _, _, _, rfl, rfl, SqL.of (s4 _ _ hr3), at_of (Int.zero_add _) (iV_get hx), rfl, _, rfl, ite2 (fun e => ?_) (fun e => ?_)⟩
          · have e : z x ≠ 0 := fun h => by
              have e : (!decide (V.int (z x) = V.int 0)) = true := e
              rw [h] at e
              exact absurd e (by decide)
            refine ⟨_, rfl, _, hE, ?_, pl ++ [x], ?_, fun b o hc => ?_, by rw [List.length_append]; exact Nat.succ_le_succ l1, fun y hy => ?_, fun h => absurd h (by simp)⟩
            · rw [List.length_map]; exact small1000 (by omega)
            · rw [upd_same, List.map_append]; show some (HO.lst (_ ++ [V.int (0 + (x : Int))])) = _; rw [Int.zero_add]; rfl
            · rw [upd_ne (ne_of_none hc nE)]
              exact s4 _ _ hc
            · rcases List.mem_append.mp hy with hy | hy
              · exact ⟨by have := (l2 y hy).1; omega, (l2 y hy).2⟩
              · rw [List.mem_singleton.mp hy]
                exact ⟨by omega, e⟩
          · have z0 : z x = 0 := Classical.byContradiction fun ne => e (by
              show (!decide (V.int (z x) = V.int 0)) = true
              rw [decide_eq_false (fun h => ne (by injection h))]
              rfl)
            refine ⟨pl, hE, s4, by omega, fun y hy => ⟨by have := (l2 y hy).1; omega, (l2 y hy).2⟩, fun h y hy => ?_⟩
            by_cases ey : y = x
            · rw [ey]; exact z0
            · exact l3 h y (by omega)
        rintro G2 ⟨pl, hE, s4, l1, l2, l3⟩
        refine ⟨_, rfl, E, _, rfl, .inl (SqL.of hE), _, _, rfl, rfl, _, rfl, ite2 (fun e => ?_) (fun e => ?_)⟩
        · rw [List.length_map] at e
          have e : 0 < pl.length := by have := of_decide_eq_true e; omega
          obtain ⟨x0, pr, rfl⟩ : ∃ x0 pr, pl = x0 :: pr := by
            cases pl with
            | nil => exact absurd e (by decide)
            | cons a b => exact ⟨a, b, rfl⟩
          obtain ⟨x0n, zx0⟩ := l2 x0 List.mem_cons_self
          have hr4 := s4 _ _ hr3
          refine ⟨_, rfl, r, rfl, ⟨_, SqL.of hr4⟩, for_it (walk_list (a := r) (xs := iV n z)) (fun j σ G3 => ∃ (g : Nat) (o11 : Option V), σ = [some (.ref p), some (.ref D), some (.ref F), some (.ref tt), some (.ref r), o5, o6, o7, o8, some (.ref E), some (.int (g : Int)), o11, none] ∧ G3 = G2 ∧ ∀ x, x < j → (g : Int) ∣ z x) ⟨0, _, rfl, rfl, fun x hx => absurd hx (by omega)⟩ (fun j σ G3 _ h => ?_) ?_ ?_⟩
          · obtain ⟨_, _, _, rfl, _⟩ := h
            exact SqL.of hr4
          · rintro j x σ G3 G3 hj ⟨g, o11, rfl, rfl, dv⟩ ⟨rfl, hx⟩
            obtain ⟨hj', rfl⟩ := iV_lt hx
            refine ⟨_, rfl, _, rfl, g, z j, rfl, Nat.gcd (g : Int).natAbs (z j).natAbs, _, rfl, rfl, fun x hx => ?_⟩
            by_cases ex : x = j
            · rw [ex]; exact RT.gg_dvd_r _ _
            · exact Int.dvd_trans (RT.gg_dvd_l _ _) (dv x (by omega))
          rintro σ G3 ⟨g, o11, rfl, rfl, dv⟩
          rw [iV_len] at dv
          have g0 : (g : Int) ≠ 0 := fun h => zx0 (by obtain ⟨y, hy⟩ := dv x0 x0n; rw [hy, h, Int.zero_mul])
          have bD1 := bD.kp (Same.keep (s3.trans s4)) (fun _ z => z) (fun z => z.elim id (fun z => FD z.symm))
          have bF1 := bF.kp (Same.keep (s3.trans s4)) (fun _ z => z) (fun z => z.elim id FD)
          obtain ⟨ac0, hD3, _⟩ := bD1.xs
          refine ⟨_, rfl, .inl ⟨rfl, _, SqL.of hD3⟩, _, rfl, E, _, 0, _, rfl, rfl, SqL.of hE, at_of (j := 0) (v := .int (x0 : Int)) rfl rfl, ?_⟩
          refine ⟨_, rfl, r, rfl, ⟨_, SqL.of hr4⟩, fun L nL => ?_⟩
          refine lc_it (walk_list (K := K) (a := r) (xs := iV n z)) (fun x G => G L = some (.lst (iV x fun x => (z x).fdiv (g : Int))) ∧ Same G3 G) ⟨upd_same, Same.upd nL⟩ (fun x G _ h => SqL.of (h.2 _ _ hr4)) ?_ ?_
          · rintro x v G4 G5 hx ⟨hL, s5⟩ ⟨rfl, hx2⟩
            obtain ⟨hx', rfl⟩ := iV_lt hx2
            refine ⟨rfl, _, rfl, _, rfl, _, _, rfl, rfl, g0, _, hL, ?_, ?_, fun c o hc => ?_⟩
            · rw [iV_len]; exact small1000 (by omega)
            · rw [upd_same, iV_succ]
            · rw [upd_ne (ne_of_none hc nL)]
              exact s5 _ _ hc
          rintro G4 ⟨hL, s5⟩
          rw [iV_len] at hL
          have eg : ∀ x, x < n → z x = g * (z x).fdiv (g : Int) := fun x hx => by
            have := RT.fdiv_of_dvd g0 (dv x hx)
            rw [Int.mul_comm]; exact this.symm
          have DF' : ¬ And1 Emp F D := fun z => z.elim id fun z => FD z.symm
          have FD' : ¬ And1 Emp D F := fun z => z.elim id FD
          have nLE : ∀ {b o}, G3 b = some o → L ≠ b := fun h e => by rw [e, h] at nL; cases nL
          obtain ⟨ac1, hF3, _⟩ := bF1.xs
          refine ⟨(by show 2 ≤ sizeLine; decide), fun U nU => ?_⟩
          have nUE : ∀ {b o}, G4 b = some o → U ≠ b := fun h e => by rw [e, h] at nU; cases nU
          have s6 : Same G4 (upd G4 U (.tup [.int (x0 : Int), .ref L])) := Same.upd nU
          have hU : At C (And1 (And1 Emp F) D) (upd G4 U (.tup [.int (x0 : Int), .ref L])) (.ref U) (.tup [.int (x0 : Int), intL n fun x => (z x).fdiv (g : Int)]) :=
            at_prK upd_same (s6 _ _ hL) (fun z => z.elim (fun z => z.elim id (nUE (s5 _ _ hF3))) (nUE (s5 _ _ hD3))) (fun z => z.elim (fun z => z.elim id (nLE hF3)) (nLE hD3))
          generalize upd G4 U (.tup [.int (x0 : Int), .ref L]) = G5 at *
          have s35 : Same G G5 := s3.trans (s4.trans (s5.trans s6))
          obtain ⟨acc, a1, a2, a3⟩ := bD.step nD (Same.keep s35) (fun _ z => z) DF' hU
          have k6 : Keep (And1 Emp D) G (upd G5 D (.lst (acc ++ [.ref U]))) := (Same.keep s35).trans (Keep.upd (.inr rfl))
          obtain ⟨ac2, c1, c2, c3⟩ := bF.step nF0 k6 (fun _ z => z) FD' (hatF.keep (k6.more fun _ z => .inl z))
          have a4 := a3.kp (H3 := upd (upd G5 D (.lst (acc ++ [.ref U]))) F (.lst (ac2 ++ [.ref tt]))) (Keep.upd (.inr rfl)) (fun _ z => z) DF'
          refine ⟨D, acc, .ref U, rfl, rfl, a1, by rw [a2, kD, rng_len]; exact small1000 (by omega), ?_⟩
          refine ⟨_, rfl, .inl ⟨rfl, _, SqL.of c1⟩, _, rfl, F, ac2, .ref tt, rfl, rfl, c1, by rw [c2, datW, List.length_map]; exact small1000 (by omega), ?_⟩
          have eD : kD n (m + 1) (ext q m x0) (ext k m fun x => (z x).fdiv (g : Int)) = kD n m q k ++ [.tup [.int (x0 : Int), intL n fun x => (z x).fdiv (g : Int)]] := by
            unfold kD
            rw [rng_succ, ext_same, ext_same]
            congr 1
            exact rng_ext fun t ht => by rw [ext_lt _ _ ht, ext_lt _ _ ht]
          have eF : datW n val (us ++ [u]) = datW n val us ++ [prI n u (val u)] := by unfold datW; rw [List.map_append]; rfl
          refine ⟨m + 1, ext q m x0, ext k m fun x => (z x).fdiv (g : Int), us ++ [u], _, _, _, _, _, _, _, _, _, rfl, by rw [eD]; exact a4, by rw [eF]; exact c3, ?_, ?_, fun t ht x hx => ?_, by rw [List.length_append, lu]; rfl, fun y hy => ?_⟩
          · exact kp.step1 rl zq x0n zx0 g0 eg (fun t ht => ext_lt _ _ ht) (ext_same _ _ _) (fun t ht => ext_lt _ _ ht) (ext_same _ _ _)
          · have kq' := kq.ext (v' := vw val (us ++ [u])) fun i hi => vw_lt (by omega)
            have e2 : vw val (us ++ [u]) m = val u := by rw [← lu]; exact vw_eq
            rw [← e2] at rl2
            exact kq'.step1 rl2 zq x0n zx0 g0 eg (fun t ht => ext_lt _ _ ht) (ext_same _ _ _) (fun t ht => ext_lt _ _ ht) (ext_same _ _ _)
          · by_cases et : t = m
            · rw [et, ext_same]
              refine (bz x hx).le ?_
              have := congrArg Int.natAbs (eg x hx)
              rw [Int.natAbs_mul] at this
              rw [this]
              exact Nat.le_mul_of_pos_left _ (by omega)
            · rw [ext_lt _ _ (by omega)]
              exact bk t (by omega) x hx
          · rcases List.mem_append.mp hy with hy | hy
            · exact mu y hy
            · rw [List.mem_singleton.mp hy]; exact um
        · rw [List.length_map] at e
          have e : ¬ 0 < pl.length := fun h => e (decide_eq_true (by show (0 : Int) < (pl.length : Int); omega))
          have pn : pl = [] := by
            cases pl with
            | nil => rfl
            | cons a b => exact absurd (Nat.succ_pos _) e
          have z0 := l3 pn
          exact ⟨m, q, k, us, _, _, _, _, _, _, _, _, _, rfl, bD.kp (Same.keep (s3.trans s4)) (fun _ z => z) (fun z => z.elim id (fun z => FD z.symm)), bF.kp (Same.keep (s3.trans s4)) (fun _ z => z) (fun z => z.elim id FD), kp.step0 rl z0, kq, bk, lu, mu⟩
    · rintro σ G ⟨m, q, k, us, o3, o4, o5, o6, o7, o8, o9, o10, o11, rfl, bD, bF, kp, kq, bk, lu, mu⟩
      rw [lz] at kp
      refine ⟨_, rfl, kk F G us (lkF bF.k) (bF.done (fun z => z.elim id FD)).drop mu (by rw [lu]; exact kp.w) ?_ ?_ fun u hu => ?_⟩
      · rw [lu]
        exact kp.cnt
      · have := kq.cnt.mp rfl
        unfold IndW
        rw [lu]
        exact this
      · obtain ⟨i, hi⟩ := List.getElem?_of_mem hu
        have il := (List.getElem?_eq_some_iff.mp hi).1
        have e : vw val ws i = val u := by unfold vw; rw [List.getD_eq_getElem?_getD, hi]; rfl
        have := DT.spn_trans (kp.vk i il) kq.kv
        rw [lu]
        unfold DT.cv at this ⊢
        rw [e] at this
        exact this
end
end RX

set_option Elab.async false
set_option maxRecDepth 100000
namespace RX
open PySem L2 LX VA VM VN
open RQ (Hg Bt)
/-! ### what is told of rows and columns -/
abbrev sTo : Stmt := topS 66
theorem scTo : FnScope ["rows", "columns", "pair", "column"] ["rows", "columns"] (defScope sTo) := ⟨rfl, rfl, rfl, by decide +kernel, rfl, by decide +kernel, by decide +kernel⟩
abbrev outTo0 : Scope := { kind := .function, names := [(".0", .local), ("pair", .cell), ("columns", .cell)], isGenerator := false, isCoroutine := false }
abbrev sRwd : Stmt := topS 67
theorem scRwd : FnScope ["plain", "size", "columns", "pair"] ["plain"] (defScope sRwd) := ⟨rfl, rfl, rfl, by decide +kernel, rfl, by decide +kernel, by decide +kernel⟩
abbrev sCwd : Stmt := topS 68
theorem scCwd : FnScope ["plain", "size", "rows", "pair"] ["plain"] (defScope sCwd) := ⟨rfl, rfl, rfl, by decide +kernel, rfl, by decide +kernel, by decide +kernel⟩
abbrev sWo : Stmt := topS 70
theorem scWo : FnScope ["tape", "letters", "most", "turn"] ["tape", "letters", "most"] (defScope sWo) := ⟨rfl, rfl, rfl, by decide +kernel, rfl, by decide +kernel, by decide +kernel⟩
abbrev sDu : Stmt := topS 71
theorem scDu : FnScope ["plain", "rows", "columns", "ends", "word"] ["plain", "rows", "columns"] (defScope sDu) := ⟨rfl, rfl, rfl, by decide +kernel, rfl, by decide +kernel, by decide +kernel⟩
theorem joinL_flat : ∀ us : List (List Nat), TL.joinL [] us = us.flatten
  | [] => rfl
  | [x] => by show x = [x].flatten; rw [List.flatten_cons, List.flatten_nil, List.append_nil]
  | x :: y :: r => by
    have ih := joinL_flat (y :: r)
    show x ++ ([] ++ TL.joinL [] (y :: r)) = _
    rw [ih]
    rfl
theorem join_wd (us : List (List Nat)) : Txt.join (Str.ofString "") (us.map wd) = wd us.flatten := by
  have e := SX.join_S [] (us.map fun u => u.map (97 + ·))
  rw [joinL_flat, List.map_map] at e
  have f : (us.map fun u => u.map (97 + ·)).flatten = us.flatten.map (97 + ·) := by
    rw [List.map_flatten]
  rw [f] at e
  exact e
theorem flat_one' : ∀ us : List Nat, (us.map fun x => [x]).flatten = us
  | [] => rfl
  | x :: us => by
    rw [List.map_cons, List.flatten_cons, flat_one' us]
    rfl
/-- a list of words -/
def wV (us : List (List Nat)) : List V := us.map fun u => .str (wd u)
theorem wV_len {us : List (List Nat)} : (wV us).length = us.length := by unfold wV; rw [List.length_map]
theorem wV_get {us : List (List Nat)} {i : Nat} {u : List Nat} (h : us[i]? = some u) : (wV us)[i]? = some (.str (wd u)) := by unfold wV; rw [List.getElem?_map, h]; rfl
theorem wV_at {us : List (List Nat)} {i : Nat} {v : V} (h : (wV us)[i]? = some v) : ∃ u, us[i]? = some u ∧ v = .str (wd u) := by
  unfold wV at h
  rw [List.getElem?_map] at h
  cases e : us[i]? with
  | none => rw [e] at h; cases h
  | some u => rw [e] at h; exact ⟨u, rfl, (Option.some.inj h).symm⟩
theorem wV_take {us : List (List Nat)} {i : Nat} {u : List Nat} (h : us[i]? = some u) : wV (us.take (i + 1)) = wV (us.take i) ++ [.str (wd u)] := by unfold wV; rw [List.take_add_one, h, List.map_append]; rfl
theorem datW_len {n : Nat} {val : List Nat → Nat → Int} {us : List (List Nat)} : (datW n val us).length = us.length := by unfold datW; rw [List.length_map]
theorem datW_get {n : Nat} {val : List Nat → Nat → Int} {us : List (List Nat)} {i : Nat} {u : List Nat} (h : us[i]? = some u) : (datW n val us)[i]? = some (prI n u (val u)) := by unfold datW; rw [List.getElem?_map, h]; rfl
theorem datW_more {n : Nat} {val : List Nat → Nat → Int} {us : List (List Nat)} {i : Nat} {u : List Nat} (h : us[i]? = some u) : datW n val (us.take (i + 1)) = datW n val (us.take i) ++ [prI n u (val u)] := by unfold datW; rw [List.take_add_one, h, List.map_append]; rfl
theorem getD_of {us : List (List Nat)} {i : Nat} {u : List Nat} (h : us[i]? = some u) : us.getD i [] = u := by rw [List.getD_eq_getElem?_getD, h]; rfl
noncomputable def bP (p : Prop) : Bool := @decide p (Classical.propDecidable p)
theorem bP_true {p : Prop} (h : p) : bP p = true := @decide_eq_true p (Classical.propDecidable p) h
theorem bP_false {p : Prop} (h : ¬ p) : bP p = false := @decide_eq_false p (Classical.propDecidable p) h
theorem bP_eq {p : Prop} [d : Decidable p] : decide p = bP p := by unfold bP; congr
theorem bP_iff {p q : Prop} (h : p ↔ q) : bP p = bP q := by rw [propext h]
/-- the numbers of a table -/
def tD (n : Nat) (vr vc : List Nat → Nat → Int) (ss : List (List Nat)) : List Nat → Nat → Int := fun u j => wsum (vr u) (vc (ss.getD j [])) n
def spTo (C : Addr) : Sp := fun vs H Q _ => ∃ (p q : Addr) (n b : Nat) (vr vc : List Nat → Nat → Int) (us ss : List (List Nat)), vs = [.ref p, .ref q] ∧ At C Emp H (.ref p) (.lst (datW n vr us)) ∧ At C Emp H (.ref q) (.lst (datW n vc ss)) ∧ n ≤ 12 ∧ us.length ≤ 1000 ∧ ss.length ≤ 1000 ∧
  (∀ u ∈ us, ∀ x, x < n → Bt b (vr u x)) ∧ (∀ u ∈ ss, ∀ x, x < n → Bt b (vc u x)) ∧ b ≤ 14000 ∧ ∀ (r : Addr) (H' : Hp), Same H H' → At C Emp H' (.ref r) (.lst (datW ss.length (tD n vr vc ss) us)) → Q (.ref r) H'
/-- words whose rows are independent over the columns that are told, and give all rows there -/
def WF (n : Nat) (vA vC : List Nat → Nat → Int) (As Cs U : List (List Nat)) : Prop := ∃ cb : List (List Nat), (∀ c ∈ cb, c ∈ Cs) ∧ (∀ u ∈ U, u ∈ As) ∧ (∀ c ∈ Cs, DT.Spn n cb.length (DT.cv (vw vC cb)) (fun x => (vC c x : Rat))) ∧ IndW cb.length (tD n vA vC cb) U ∧ ∀ u ∈ As, DT.Spn cb.length U.length (DT.cv (vw (tD n vA vC cb) U)) (fun x => (tD n vA vC cb u x : Rat))
theorem wsum_comm {z y : Nat → Int} : ∀ {n : Nat}, wsum z y n = wsum y z n
  | 0 => rfl
  | n + 1 => by
    show wsum z y n + z n * y n = wsum y z n + y n * z n
    rw [wsum_comm, Int.mul_comm]
theorem wsum_sm {z y : Nat → Int} : ∀ {n : Nat}, ((wsum z y n : Int) : Rat) = DT.sm n fun x => (z x : Rat) * (y x : Rat)
  | 0 => rfl
  | n + 1 => by
    show ((wsum z y n + z n * y n : Int) : Rat) = DT.sm n _ + _
    rw [Rat.intCast_add, wsum_sm, Rat.intCast_mul]
theorem wsum_lin {n k : Nat} {z y : Nat → Int} {e : Nat → Rat} {a : Nat → Nat → Int} (h : ∀ x, x < n → (z x : Rat) = DT.sm k fun t => e t * (a t x : Rat)) : ((wsum z y n : Int) : Rat) = DT.sm k fun t => e t * ((wsum (a t) y n : Int) : Rat) := by
  rw [wsum_sm, DT.sm_congr (g := fun x => DT.sm k fun t => (y x : Rat) * (e t * (a t x : Rat))) fun x hx => by rw [h x hx, Rat.mul_comm, DT.sm_mul], DT.sm_swap]
  refine DT.sm_congr fun t _ => ?_
  rw [wsum_sm, ← DT.sm_mul]
  exact DT.sm_congr fun x _ => by grind
theorem getDm {us : List (List Nat)} {i : Nat} (h : i < us.length) : us.getD i [] ∈ us := by
  rw [getD_of (List.getElem?_eq_getElem h)]
  exact List.getElem_mem h
theorem wf_len {n : Nat} {vA vC : List Nat → Nat → Int} {As Cs U S : List (List Nat)} (h : WF n vA vC As Cs U) (g : WF n vC vA Cs As S) : U.length ≤ S.length := by
  obtain ⟨cb, c1, c2, _, c4, _⟩ := h
  obtain ⟨ab, _, _, a3, _, a5⟩ := g
  refine DT.wf_le (nC := cb.length) (nA := ab.length) (TU := DT.cv (vw (tD n vA vC cb) U)) (N := fun u s => ((wsum (vA (U.getD u [])) (vC (S.getD s [])) n : Int) : Rat)) (AS := fun a s => ((wsum (vA (ab.getD a [])) (vC (S.getD s [])) n : Int) : Rat)) (AC := fun a c => ((wsum (vA (ab.getD a [])) (vC (cb.getD c [])) n : Int) : Rat)) c4 (fun u hu => ?_) fun c hc => ?_
  · obtain ⟨e, he⟩ := a3 _ (c2 _ (getDm hu))
    exact ⟨e, fun c _ => wsum_lin (a := fun t => vA (ab.getD t [])) he, fun s _ => wsum_lin (a := fun t => vA (ab.getD t [])) he⟩
  · obtain ⟨d, hd⟩ := a5 _ (c1 _ (getDm hc))
    refine ⟨d, fun a ha => ?_⟩
    have := hd a ha
    show ((wsum (vA (ab.getD a [])) (vC (cb.getD c [])) n : Int) : Rat) = DT.sm S.length fun s => d s * ((wsum (vA (ab.getD a [])) (vC (S.getD s [])) n : Int) : Rat)
    rw [wsum_comm]
    refine this.trans (DT.sm_congr fun s _ => ?_)
    rw [wsum_comm (z := vA (ab.getD a []))]
    rfl
def spRwd (C : Addr) : Sp := fun vs H Q _ => ∃ (pq : Addr) (p : Pl), vs = [.ref pq] ∧ At C Emp H (.ref pq) (plD p) ∧ PlB p ∧ ∀ (r : Addr) (H' : Hp) (us : List (List Nat)), Same H H' → H' r = some (.lst (wV us)) → us.length ≤ p.n → (∀ u ∈ us, u.length < p.n ∧ Ltk p.k u) → H r = none → WF p.n (rwI p p.s) (clI p) (levs (wlev p.k) p.n) (levs (clev p.k) p.n) us → Q (.ref r) H'
def spCwd (C : Addr) : Sp := fun vs H Q _ => ∃ (pq : Addr) (p : Pl), vs = [.ref pq] ∧ At C Emp H (.ref pq) (plD p) ∧ PlB p ∧ ∀ (r : Addr) (H' : Hp) (us : List (List Nat)), Same H H' → H' r = some (.lst (wV us)) → us.length ≤ p.n → (∀ u ∈ us, u.length < p.n ∧ Ltk p.k u) → H r = none → WF p.n (clI p) (rwI p p.s) (levs (clev p.k) p.n) (levs (wlev p.k) p.n) us → Q (.ref r) H'
def spWo : Sp := fun vs H Q _ => ∃ (a cl : Addr) (k n : Nat), vs = [.ref a, .int (k : Int), .int (n : Int)] ∧ FeedAt H a cl ∧ 1 ≤ k ∧ k ≤ 4 ∧ n ≤ 200 ∧ ∀ (u : List Nat) (H' : Hp), u.length ≤ n → Ltk k u → FeedAt H' a cl → But a H H' → Q (.str (wd u)) H'
def spDu (C : Addr) : Sp := fun vs H Q _ => ∃ (pq pr pc : Addr) (p : Pl) (us ss : List (List Nat)), vs = [.ref pq, .ref pr, .ref pc] ∧ At C Emp H (.ref pq) (plD p) ∧ PlB p ∧ H pr = some (.lst (wV us)) ∧ H pc = some (.lst (wV ss)) ∧ us.length ≤ 12 ∧ ss.length ≤ 12 ∧ (∀ u ∈ us, u.length ≤ 20 ∧ Ltk p.k u) ∧ (∀ u ∈ ss, u.length ≤ 20 ∧ Ltk p.k u) ∧
  ∀ H' : Hp, Same H H' → Q (.bl (bP (us.length = ss.length ∧ IndW ss.length (tD p.n (rwI p p.s) (clI p) ss) us))) H'
theorem rw_bt {p : Pl} (h : PlB p) {u : List Nat} (hu : u.length ≤ 20 ∧ Ltk p.k u) : ∀ x, x < p.n → Bt 400 (rwI p p.s u x) := fun x hx => (rwI_bt h hu.2 h.s x hx).up (by omega)
theorem cl_bt {p : Pl} (h : PlB p) {u : List Nat} (hu : u.length ≤ 20 ∧ Ltk p.k u) : ∀ x, x < p.n → Bt 400 (clI p u x) := fun x hx => (clI_bt h hu.2 x hx).up (by omega)
theorem td_bt {n b : Nat} {vr vc : List Nat → Nat → Int} {us ss : List (List Nat)} (hn : n ≤ 12) (h1 : ∀ u ∈ us, ∀ x, x < n → Bt b (vr u x)) (h2 : ∀ u ∈ ss, ∀ x, x < n → Bt b (vc u x)) : ∀ u ∈ us, ∀ j, j < ss.length → Bt (b + b + 4) (tD n vr vc ss u j) := fun u hu j hj => by
  have hs : ss[j]? = some ss[j] := List.getElem?_eq_getElem hj
  unfold tD
  rw [getD_of hs]
  exact wsum_bt4 (by omega) fun i hi => ⟨h1 u hu i hi, h2 _ (List.getElem_mem hj) i hi⟩
section
variable {P : Program} {w : World} {K : PySem.W.Frag} {mg : Str → Option Value} {base : Heap}
theorem ok_to {f fD C : Addr} {fd dD : FuncData} (F : Fun K "_law_told" "_law_told" sTo f fd) (cDt : CalN P w K mg base "_law_dot" 1 ["row", "other"] spDt fD dD) : FnOk P w K mg base CX0 2 f fd ["rows", "columns"] (spTo C) := by
  refine F.ok scTo (fun vs H Q E h => ?_) (fun cdv A outer s H vs Q E hr h => ?_)
  · obtain ⟨p, q, n, b, vr, vc, us, ss, rfl, _⟩ := h
    rfl
  · obtain ⟨p, q, n, b, vr, vc, us, ss, rfl, hp, hq, hn, lu, ls, br, bc, hb, kk⟩ := h
    have hr1 : Room 1 _ := hr
    obtain ⟨xs, hxs, lx, ex⟩ := hp.lstE
    obtain ⟨ys, hys, ly, ey⟩ := hq.lstE
    rw [datW_len] at lx ly
    refine ⟨_, pss_one (ps_ret (pe_lc (own := [("pair", 2)]) (g := gName 2) (tt := tYes) rfl scTo.nd (pi_list (pv 0)) (blkOk_by (N := ["rows", "columns", "pair", "column"]) (sc := (defScope sTo)) (by decide +kernel)) (fun _ _ _ _ _ => (pg_name (i := 2) scTo.nd rfl (.inr rfl))) (fun _ _ _ _ _ => pts_nil) (fun _ _ _ _ _ => (pe_tup (pa_cons (pe_ix (show IxR _ (rIxT K) from ix_tup) (pv 2) pe_int (fun _ _ => rfl)) (pa_cons (pe_lc (own := [("column", 3)]) (g := gName 3) (tt := tYes) rfl scTo.nd (pi_listK (K := K) rfl (pv 1)) (blkOk_by (N := ["rows", "columns", "pair", "column"]) (sc := outTo0) (by decide +kernel)) (fun _ _ _ _ _ => (pg_name (i := 3) scTo.nd rfl (.inl rfl))) (fun _ _ _ _ _ => pts_nil) (fun _ _ _ _ _ => (pe_call cDt.G hr1 rfl cDt.m cDt.kp cDt.b .nil pass0 (pa_cons (pe_ix (show IxR _ (rIxT K) from ix_tup) (pv 2) pe_int (fun _ _ => rfl)) (pa_cons (pe_ix (show IxR _ (rIxT K) from ix_tup) (pv 3) pe_int (fun _ _ => rfl)) pa_nil))))) pa_nil)))))), ?_⟩
    refine ⟨_, rfl, p, rfl, ⟨_, SqL.of hxs⟩, fun D nD => ?_⟩
    refine lc_it (walk_list (K := K) (a := p) (xs := xs)) (fun i G => Bld C Emp Emp H D (datW ss.length (tD n vr vc ss) (us.take i)) G) (bld0 nD) (fun i G _ h => SqL.of (h.k.same _ _ hxs)) ?_ ?_
    · rintro i x G1 G2 hi bD ⟨rfl, hx⟩
      rw [lx] at hi
      obtain ⟨u, hu⟩ : ∃ u, us[i]? = some u := ⟨_, List.getElem?_eq_getElem hi⟩
      have um := List.mem_of_getElem? hu
      obtain ⟨tt, r, rfl, h5, h6, _, _⟩ := (ex i x _ hx (datW_get hu)).prI
      have sD := bD.k.same
      refine ⟨rfl, _, rfl, tt, _, 0, _, rfl, rfl, SqT.of (sD _ _ h5), rfl, ?_⟩
      refine ⟨_, rfl, q, rfl, ⟨_, SqL.of (sD _ _ hys)⟩, fun L nL => ?_⟩
      refine lc_it (walk_list (K := K) (a := q) (xs := ys)) (fun j G => G L = some (.lst (iV j (tD n vr vc ss u))) ∧ Same G2 G) ⟨upd_same, Same.upd nL⟩ (fun j G _ h => SqL.of (h.2 _ _ (sD _ _ hys))) ?_ ?_
      · rintro j y G3 G4 hj ⟨hL, s3⟩ ⟨rfl, hy⟩
        rw [ly] at hj
        obtain ⟨v, hv⟩ : ∃ v, ss[j]? = some v := ⟨_, List.getElem?_eq_getElem hj⟩
        have vm := List.mem_of_getElem? hv
        obtain ⟨t2, r2, rfl, h7, h8, _, _⟩ := (ey j y _ hy (datW_get hv)).prI
        have st : ∀ {a o}, H a = some o → G4 a = some o := fun h => s3 _ _ (sD _ _ h)
        refine ⟨rfl, _, rfl, tt, _, 1, _, rfl, rfl, SqT.of (st h5), rfl, _, rfl, t2, _, 1, _, rfl, rfl, SqT.of (st h7), rfl, ?_⟩
        refine ⟨r, r2, n, vr u, vc v, rfl, st h6, st h8, by omega, fun x hx => ⟨(br u um x hx).hg (by omega), (bc v vm x hx).hg (by omega)⟩, fun G5 s5 => ⟨_, s5 _ _ hL, ?_, ?_, fun b o hc => ?_⟩⟩
        · rw [iV_len]; exact small1000 (by omega)
        · rw [upd_same, iV_succ]
          unfold tD
          rw [getD_of hv]
        · rw [upd_ne (ne_of_none hc nL)]
          exact s5 _ _ (s3 _ _ hc)
      · rintro G3 ⟨hL, s3⟩
        rw [ly] at hL
        refine ⟨(by show 2 ≤ sizeLine; decide), fun T nT => ?_⟩
        obtain ⟨ac0, hD2, _⟩ := bD.xs
        have sT : Same G3 (upd G3 T (.tup [.str (wd u), .ref L])) := Same.upd nT
        have LD : L ≠ D := fun e => by rw [e, hD2] at nL; cases nL
        have TD : T ≠ D := fun e => by have := s3 _ _ hD2; rw [e, this] at nT; cases nT
        have hT : At C (And1 Emp D) (upd G3 T (.tup [.str (wd u), .ref L])) (.ref T) (prI ss.length u (tD n vr vc ss u)) := at_prI upd_same (sT _ _ hL) (fun z => z.elim id TD) (fun z => z.elim id LD)
        obtain ⟨acc, a1, a2, a3⟩ := bD.step nD (Same.keep (s3.trans sT)) (fun _ z => z.elim) id hT
        refine ⟨acc, a1, ?_, ?_⟩
        · rw [a2, datW_len, List.length_take]; exact small1000 (by omega)
        · rw [datW_more hu]
          exact a3
    · rintro G bD
      rw [lx, List.take_length] at bD
      exact kk D G bD.k.same (bD.done id)
theorem strs_of {C p : Addr} {H : Hp} {n i : Nat} {val : List Nat → Nat → Int} {us : List (List Nat)} {xs : List V} {x : V} (lx : xs.length = (datW n val us).length) (ex : ∀ (i : Nat) (x : V) (d : Dat), xs[i]? = some x → (datW n val us)[i]? = some d → At C Emp H x d) (hx : xs[i]? = some x) :
    ∃ u t r, us[i]? = some u ∧ x = .ref t ∧ H t = some (.tup [.str (wd u), .ref r]) := by
  have hi := (List.getElem?_eq_some_iff.mp hx).1
  rw [lx, datW_len] at hi
  obtain ⟨u, hu⟩ : ∃ u, us[i]? = some u := ⟨_, List.getElem?_eq_getElem hi⟩
  obtain ⟨tt, r, e, h5, h6, _, _⟩ := (ex i x _ hx (datW_get hu)).prI
  exact ⟨u, tt, r, hu, e, h5⟩
theorem ok_rwd {f fR fC fF fT C : Addr} {fd dR dC dF dT : FuncData} (F : Fun K "_law_row_words" "_law_row_words" sRwd f fd) (T : TxtL mg) (cRws : CalN P w K mg base "_law_rows" 3 ["plain", "length"] (spRws C) fR dR) (cCls : CalN P w K mg base "_law_columns" 3 ["plain", "length"] (spCls C) fC dC)
    (cFi1 : CalN P w K mg base "_law_first" 33 ["pairs"] (spFi1 C) fF dF) (cTo : CalN P w K mg base "_law_told" 2 ["rows", "columns"] (spTo C) fT dT) : FnOk P w K mg base CX0 34 f fd ["plain"] (spRwd C) := by
  refine F.ok scRwd (fun vs H Q E h => ?_) (fun cdv A outer s H vs Q E hr h => ?_)
  · obtain ⟨pq, p, rfl, _⟩ := h
    rfl
  · obtain ⟨pq, p, rfl, hp, pb, kk⟩ := h
    have hr33 : Room 33 _ := hr
    have hr3 : Room 3 _ := hr.mono (by decide)
    have hr2 : Room 2 _ := hr.mono (by decide)
    have n12 := pb.n12
    obtain ⟨ps, pt, pe, pbb, ta, h1, hps, hpt, hpe, hpb, hta⟩ := hp.pl
    have cm : ∀ u ∈ levs (clev p.k) p.n, u.length < p.n ∧ Ltk p.k u := fun u hu => levs_mem (fun t u => clev_mem) hu
    have rm : ∀ u ∈ levs (wlev p.k) p.n, u.length < p.n ∧ Ltk p.k u := fun u hu => levs_mem (fun t u => wlev_mem) hu
    have cl : (levs (clev p.k) p.n).length ≤ 1000 := by rw [levs_len fun t => clev_len]; have := geo_le pb (Nat.le_refl _); omega
    have rl : (levs (wlev p.k) p.n).length ≤ 1000 := by rw [levs_len fun t => wlev_len]; have := geo_le pb (Nat.le_refl _); omega
    refine ⟨_, pss_cons (ps_set (i := 1) scRwd.nd rfl (.inl rfl) (pe_callB call_len_seq (by rfl) T.len PySem.boot_len (pa_cons (pe_ix ix_tup (pv 0) pe_int (fun _ _ => rfl)) pa_nil)))
      (pss_cons (ps_set (i := 2) scRwd.nd rfl (.inl rfl) (pe_call cFi1.G hr33 rfl cFi1.m cFi1.kp cFi1.b .nil pass0 (pa_cons (pe_call cCls.G hr3 rfl cCls.m cCls.kp cCls.b .nil pass0 (pa_cons (pv 0) (pa_cons (pv 1) pa_nil))) pa_nil)))
      (pss_one (ps_ret (pe_lc (own := [("pair", 3)]) (g := gName 3) (tt := tYes) rfl scRwd.nd (pi_list (pe_call cFi1.G hr33 rfl cFi1.m cFi1.kp cFi1.b .nil pass0 (pa_cons (pe_call cTo.G hr2 rfl cTo.m cTo.kp cTo.b .nil pass0 (pa_cons (pe_call cRws.G hr3 rfl cRws.m cRws.kp cRws.b .nil pass0 (pa_cons (pv 0) (pa_cons (pv 1) pa_nil))) (pa_cons (pv 2) pa_nil))) pa_nil))) (blkOk_by (N := ["plain", "size", "columns", "pair"]) (sc := (defScope sRwd)) (by decide +kernel)) (fun _ _ _ _ _ => (pg_name (i := 3) scRwd.nd rfl (.inl rfl))) (fun _ _ _ _ _ => pts_nil) (fun _ _ _ _ _ => (pe_ix (show IxR _ (rIxT K) from ix_tup) (pv 3) pe_int (fun _ _ => rfl))))))), ?_⟩
    refine ⟨_, rfl, pq, _, 1, _, rfl, rfl, SqT.of h1, rfl, ps, _, rfl, .inl (SqL.of hps), ?_⟩
    rw [iV_len]
    refine ⟨_, rfl, _, rfl, pq, p, p.n, rfl, hp, pb, Nat.le_refl _, fun r1 H1 s1 a1 => ?_⟩
    refine ⟨r1, p.n, 400, clI p, _, rfl, a1, n12, cl, fun u hu => cl_bt pb ⟨by have := (cm u hu).1; omega, (cm u hu).2⟩, by decide, fun r2 H2 cs s2 a2 m2 l2 _ _ sp2 => ?_⟩
    refine ⟨_, rfl, _, rfl, pq, p, p.n, rfl, hp.same (s1.trans s2), pb, Nat.le_refl _, fun r3 H3 s3 a3 => ?_⟩
    refine ⟨_, rfl, r3, r2, p.n, 400, rwI p p.s, clI p, _, cs, rfl, a3, a2.same s3, n12, rl, by omega, fun u hu => rw_bt pb ⟨by have := (rm u hu).1; omega, (rm u hu).2⟩, fun u hu => cl_bt pb ⟨by have := (cm u (m2 u hu)).1; omega, (cm u (m2 u hu)).2⟩, by decide, fun r4 H4 s4 a4 => ?_⟩
    refine ⟨r4, cs.length, 804, _, _, rfl, a4, by omega, rl, td_bt n12 (fun u hu => rw_bt pb ⟨by have := (rm u hu).1; omega, (rm u hu).2⟩) (fun u hu => cl_bt pb ⟨by have := (cm u (m2 u hu)).1; omega, (cm u (m2 u hu)).2⟩), by decide, fun r5 H5 us s5 a5 m5 l5 _ i5 sp5 => ?_⟩
    obtain ⟨xs, hxs, lx, ex⟩ := a5.lstE
    refine ⟨r5, rfl, ⟨_, SqL.of hxs⟩, fun D nD => ?_⟩
    refine lc_it (walk_list (K := K) (a := r5) (xs := xs)) (fun i G => G D = some (.lst (wV (us.take i))) ∧ Same H5 G) ⟨upd_same, Same.upd nD⟩ (fun j G _ h => SqL.of (h.2 _ _ hxs)) ?_ ?_
    · rintro i x G1 G2 hi ⟨hD, s6⟩ ⟨rfl, hx⟩
      obtain ⟨u, t, r, hu, rfl, ht⟩ := strs_of (p := r5) lx ex hx
      refine ⟨rfl, _, rfl, t, _, 0, _, rfl, rfl, SqT.of (s6 _ _ ht), rfl, _, hD, ?_, ?_, fun b o hc => ?_⟩
      · rw [wV_len, List.length_take]; exact small1000 (by omega)
      · rw [upd_same, wV_take hu]
      · rw [upd_ne (ne_of_none hc nD)]
        exact s6 _ _ hc
    · rintro G ⟨hD, s6⟩
      rw [lx, datW_len, List.take_length] at hD
      have sa := s1.trans (s2.trans (s3.trans (s4.trans s5)))
      exact kk D G us (sa.trans s6) hD (by omega) (fun u hu => rm u (m5 u hu)) (sa.free nD) ⟨cs, m2, m5, sp2, i5, sp5⟩
theorem ok_cwd {f fR fC fF fT C : Addr} {fd dR dC dF dT : FuncData} (F : Fun K "_law_column_words" "_law_column_words" sCwd f fd) (T : TxtL mg) (cRws : CalN P w K mg base "_law_rows" 3 ["plain", "length"] (spRws C) fR dR) (cCls : CalN P w K mg base "_law_columns" 3 ["plain", "length"] (spCls C) fC dC)
    (cFi1 : CalN P w K mg base "_law_first" 33 ["pairs"] (spFi1 C) fF dF) (cTo : CalN P w K mg base "_law_told" 2 ["rows", "columns"] (spTo C) fT dT) : FnOk P w K mg base CX0 34 f fd ["plain"] (spCwd C) := by
  refine F.ok scCwd (fun vs H Q E h => ?_) (fun cdv A outer s H vs Q E hr h => ?_)
  · obtain ⟨pq, p, rfl, _⟩ := h
    rfl
  · obtain ⟨pq, p, rfl, hp, pb, kk⟩ := h
    have hr33 : Room 33 _ := hr
    have hr3 : Room 3 _ := hr.mono (by decide)
    have hr2 : Room 2 _ := hr.mono (by decide)
    have n12 := pb.n12
    obtain ⟨ps, pt, pe, pbb, ta, h1, hps, hpt, hpe, hpb, hta⟩ := hp.pl
    have cm : ∀ u ∈ levs (clev p.k) p.n, u.length < p.n ∧ Ltk p.k u := fun u hu => levs_mem (fun t u => clev_mem) hu
    have rm : ∀ u ∈ levs (wlev p.k) p.n, u.length < p.n ∧ Ltk p.k u := fun u hu => levs_mem (fun t u => wlev_mem) hu
    have cl : (levs (clev p.k) p.n).length ≤ 1000 := by rw [levs_len fun t => clev_len]; have := geo_le pb (Nat.le_refl _); omega
    have rl : (levs (wlev p.k) p.n).length ≤ 1000 := by rw [levs_len fun t => wlev_len]; have := geo_le pb (Nat.le_refl _); omega
    refine ⟨_, pss_cons (ps_set (i := 1) scCwd.nd rfl (.inl rfl) (pe_callB call_len_seq (by rfl) T.len PySem.boot_len (pa_cons (pe_ix ix_tup (pv 0) pe_int (fun _ _ => rfl)) pa_nil)))
      (pss_cons (ps_set (i := 2) scCwd.nd rfl (.inl rfl) (pe_call cFi1.G hr33 rfl cFi1.m cFi1.kp cFi1.b .nil pass0 (pa_cons (pe_call cRws.G hr3 rfl cRws.m cRws.kp cRws.b .nil pass0 (pa_cons (pv 0) (pa_cons (pv 1) pa_nil))) pa_nil)))
      (pss_one (ps_ret (pe_lc (own := [("pair", 3)]) (g := gName 3) (tt := tYes) rfl scCwd.nd (pi_list (pe_call cFi1.G hr33 rfl cFi1.m cFi1.kp cFi1.b .nil pass0 (pa_cons (pe_call cTo.G hr2 rfl cTo.m cTo.kp cTo.b .nil pass0 (pa_cons (pe_call cCls.G hr3 rfl cCls.m cCls.kp cCls.b .nil pass0 (pa_cons (pv 0) (pa_cons (pv 1) pa_nil))) (pa_cons (pv 2) pa_nil))) pa_nil))) (blkOk_by (N := ["plain", "size", "rows", "pair"]) (sc := (defScope sCwd)) (by decide +kernel)) (fun _ _ _ _ _ => (pg_name (i := 3) scCwd.nd rfl (.inl rfl))) (fun _ _ _ _ _ => pts_nil) (fun _ _ _ _ _ => (pe_ix (show IxR _ (rIxT K) from ix_tup) (pv 3) pe_int (fun _ _ => rfl))))))), ?_⟩
    refine ⟨_, rfl, pq, _, 1, _, rfl, rfl, SqT.of h1, rfl, ps, _, rfl, .inl (SqL.of hps), ?_⟩
    rw [iV_len]
    refine ⟨_, rfl, _, rfl, pq, p, p.n, rfl, hp, pb, Nat.le_refl _, fun r1 H1 s1 a1 => ?_⟩
    refine ⟨r1, p.n, 400, rwI p p.s, _, rfl, a1, n12, rl, fun u hu => rw_bt pb ⟨by have := (rm u hu).1; omega, (rm u hu).2⟩, by decide, fun r2 H2 cs s2 a2 m2 l2 _ _ sp2 => ?_⟩
    refine ⟨_, rfl, _, rfl, pq, p, p.n, rfl, hp.same (s1.trans s2), pb, Nat.le_refl _, fun r3 H3 s3 a3 => ?_⟩
    refine ⟨_, rfl, r3, r2, p.n, 400, clI p, rwI p p.s, _, cs, rfl, a3, a2.same s3, n12, cl, by omega, fun u hu => cl_bt pb ⟨by have := (cm u hu).1; omega, (cm u hu).2⟩, fun u hu => rw_bt pb ⟨by have := (rm u (m2 u hu)).1; omega, (rm u (m2 u hu)).2⟩, by decide, fun r4 H4 s4 a4 => ?_⟩
    refine ⟨r4, cs.length, 804, _, _, rfl, a4, by omega, cl, td_bt n12 (fun u hu => cl_bt pb ⟨by have := (cm u hu).1; omega, (cm u hu).2⟩) (fun u hu => rw_bt pb ⟨by have := (rm u (m2 u hu)).1; omega, (rm u (m2 u hu)).2⟩), by decide, fun r5 H5 us s5 a5 m5 l5 _ i5 sp5 => ?_⟩
    obtain ⟨xs, hxs, lx, ex⟩ := a5.lstE
    refine ⟨r5, rfl, ⟨_, SqL.of hxs⟩, fun D nD => ?_⟩
    refine lc_it (walk_list (K := K) (a := r5) (xs := xs)) (fun i G => G D = some (.lst (wV (us.take i))) ∧ Same H5 G) ⟨upd_same, Same.upd nD⟩ (fun j G _ h => SqL.of (h.2 _ _ hxs)) ?_ ?_
    · rintro i x G1 G2 hi ⟨hD, s6⟩ ⟨rfl, hx⟩
      obtain ⟨u, t, r, hu, rfl, ht⟩ := strs_of (p := r5) lx ex hx
      refine ⟨rfl, _, rfl, t, _, 0, _, rfl, rfl, SqT.of (s6 _ _ ht), rfl, _, hD, ?_, ?_, fun b o hc => ?_⟩
      · rw [wV_len, List.length_take]; exact small1000 (by omega)
      · rw [upd_same, wV_take hu]
      · rw [upd_ne (ne_of_none hc nD)]
        exact s6 _ _ hc
    · rintro G ⟨hD, s6⟩
      rw [lx, datW_len, List.take_length] at hD
      have sa := s1.trans (s2.trans (s3.trans (s4.trans s5)))
      exact kk D G us (sa.trans s6) hD (by omega) (fun u hu => cm u (m5 u hu)) (sa.free nD) ⟨cs, m2, m5, sp2, i5, sp5⟩
theorem ok_wo {f fN : Addr} {fd dN : FuncData} (F : Fun K "_law_word" "_law_word" sWo f fd) (T : TxtL mg) (cNx : CalN P w K mg base "_law_next" 1 ["tape", "limit"] spDraw fN dN) : FnOk P w K mg base CX0 2 f fd ["tape", "letters", "most"] spWo := by
  refine F.ok scWo (fun vs H Q E h => ?_) (fun cdv A outer s H vs Q E hr h => ?_)
  · obtain ⟨a, cl, k, n, rfl, _⟩ := h
    rfl
  · obtain ⟨a, cl, k, n, rfl, hF, k1, k4, n200, kk⟩ := h
    have hr1 : Room 1 _ := hr
    refine ⟨_, pss_one (ps_ret (pe_bm PySem.F.plainAttrs_str PySem.F.slot_str_join PySem.F.type_str_join mt_join pe_str (pa_cons (pe_lc (own := [("turn", 3)]) (g := gName 3) (tt := tYes) rfl scWo.nd (pi_range1 (by rfl) T.range (pa_cons (pe_call cNx.G hr1 rfl cNx.m cNx.kp cNx.b .nil pass0 (pa_cons (pv 0) (pa_cons (pe_op op_add (pv 2) pe_int) pa_nil))) pa_nil)) (blkOk_by (N := ["tape", "letters", "most", "turn"]) (sc := (defScope sWo)) (by decide +kernel)) (fun _ _ _ _ _ => (pg_name (i := 3) scWo.nd rfl (.inl rfl))) (fun _ _ _ _ _ => pts_nil) (fun _ _ _ _ _ => (pe_ix ix_str pe_str (pe_call cNx.G hr1 rfl cNx.m cNx.kp cNx.b .nil pass0 (pa_cons (pv 0) (pa_cons (pv 1) pa_nil))) (fun _ _ => rfl)))) pa_nil))), ?_⟩
    refine ⟨rfl, _, rfl, _, rfl, _, _, rfl, rfl, a, cl, ((n : Int) + 1), rfl, hF, by omega, by omega, fun d H1 d0 d1 f1 b1 => ?_⟩
    obtain ⟨e, rfl⟩ : ∃ e : Nat, d = (e : Int) := ⟨d.toNat, by omega⟩
    refine ⟨e, rfl, by omega, by omega, fun L nL => ?_⟩
    obtain ⟨La, Lc⟩ := f1.ne_new nL
    refine lc_it (walk_range (lo := 0) (n := e)) (fun i G' => ∃ ls : List Nat, ls.length = i ∧ Ltk k ls ∧ G' L = some (.lst (ls.map fun x => V.str (wd [x]))) ∧ FeedAt G' a cl ∧ ∀ c o, H1 c = some o → c ≠ a → G' c = some o) ⟨[], rfl, fun x hx => absurd hx List.not_mem_nil, upd_same, f1.other La Lc, fun c o hc ne => by rw [upd_ne (ne_of_none hc nL)]; exact hc⟩ (fun _ _ _ _ => trivial) ?_ ?_
    · rintro i y G3 G4 hi ⟨ls, lls, kls, hL, fL, bL⟩ ⟨rfl, rfl⟩
      refine ⟨rfl, _, rfl, _, rfl, a, cl, (k : Int), rfl, fL, by omega, by omega, fun r G5 r0 r1 f5 b5 => ?_⟩
      have er : r = ((r.toNat : Nat) : Int) := by omega
      have lt : r.toNat < k := by omega
      refine ⟨_, _, 97 + r.toNat, rfl, rfl, abcd_len, by rw [er, Int.toNat_natCast]; exact abcd_at (by omega), ?_⟩
      refine ⟨_, b5 _ _ hL La, by rw [List.length_map, lls]; exact small1000 (by omega), ls ++ [r.toNat], by rw [List.length_append, lls]; rfl, ?_, by rw [upd_same, List.map_append]; rfl, f5.other La Lc, fun c o hc ne => ?_⟩
      · intro x hx
        rcases List.mem_append.mp hx with hx | hx
        · exact kls x hx
        · rw [List.mem_singleton.mp hx]
          exact lt
      · rw [upd_ne (ne_of_none hc nL)]
        exact b5 _ _ (bL c o hc ne) ne
    · rintro G3 ⟨ls, lls, kls, hL, fL, bL⟩
      have e : (ls.map fun x => V.str (wd [x])) = ((ls.map fun x => [x]).map wd).map V.str := by rw [List.map_map, List.map_map]; rfl
      refine ⟨_, L, (ls.map fun x => [x]).map wd, rfl, rfl, .inl (by rw [← e]; exact SqL.of hL), ?_, ?_⟩
      · have : ∀ us : List Nat, ((((us.map fun x => [x]).map wd)).map (·.length)).sum = us.length := fun us => by
          induction us with
          | nil => rfl
          | cons x us ih =>
            rw [List.map_cons, List.map_cons, List.map_cons, List.sum_cons, ih, wd_len, List.length_cons, List.length_cons, List.length_nil]
            omega
        rw [this, lls, show (Str.ofString "").length = 0 from rfl, Nat.mul_zero]
        omega
      · rw [join_wd, flat_one']
        exact kk ls G3 (by omega) kls fL (b1.trans fun c o hc ne => bL c o hc ne)
theorem ok_du {f fR fC fF fT C : Addr} {fd dR dC dF dT : FuncData} (F : Fun K "_law_due" "_law_due" sDu f fd) (T : TxtL mg) (cRo : CalN P w K mg base "_law_row" 3 ["plain", "word"] (spRo C) fR dR) (cCl : CalN P w K mg base "_law_column" 3 ["plain", "word"] (spCl C) fC dC)
    (cFi1 : CalN P w K mg base "_law_first" 33 ["pairs"] (spFi1 C) fF dF) (cTo : CalN P w K mg base "_law_told" 2 ["rows", "columns"] (spTo C) fT dT) : FnOk P w K mg base CX0 34 f fd ["plain", "rows", "columns"] (spDu C) := by
  refine F.ok scDu (fun vs H Q E h => ?_) (fun cdv A outer s H vs Q E hr h => ?_)
  · obtain ⟨pq, pr, pc, p, us, ss, rfl, _⟩ := h
    rfl
  · obtain ⟨pq, pr, pc, p, us, ss, rfl, hp, pb, hpr, hpc, lu, ls, mu, ms, kk⟩ := h
    have hr33 : Room 33 _ := hr
    have hr3 : Room 3 _ := hr.mono (by decide)
    have hr2 : Room 2 _ := hr.mono (by decide)
    have n12 := pb.n12
    obtain ⟨ps, pt, pe, pbb, ta, h1, hps, hpt, hpe, hpb, hta⟩ := hp.pl
    have nD' : ∀ {G : Hp} {D r : Addr}, Same H G → H D = none → NewOr G pq r → G D ≠ none → r ≠ D := fun {G D r} s nD z gd e => by
      rcases z with z | ⟨xs, hx, mx⟩
      · rw [e] at z; exact gd z
      · rw [s _ _ h1] at hx
        cases hx
        rw [e] at mx
        simp only [List.mem_cons, List.not_mem_nil, or_false, V.ref.injEq, reduceCtorEq, false_or] at mx
        rcases mx with z | z | z | z <;> rw [z] at nD
        · rw [hps] at nD; cases nD
        · rw [hpt] at nD; cases nD
        · rw [hpe] at nD; cases nD
        · rw [hpb] at nD; cases nD
    refine ⟨_, pss_cons (ps_if (pt_cmpR op_ne (pe_callB call_len_seq (by rfl) T.len PySem.boot_len (pa_cons (pv 1) pa_nil)) (pe_callB call_len_seq (by rfl) T.len PySem.boot_len (pa_cons (pv 2) pa_nil)) (nomark _))
        (pss_one (ps_ret pe_bl))
        pss_nil)
      (pss_cons (ps_setLc (i := 3) (own := [("word", 4)]) (g := gName 4) (tt := tYes) rfl scDu.nd rfl rfl (sw_true rfl rfl rfl (by decide +kernel)) (pi_list (pv 2)) (blkOk_by (N := ["plain", "rows", "columns", "ends", "word"]) (sc := (defScope sDu)) (by decide +kernel)) (fun _ _ _ _ _ => (pg_name (i := 4) scDu.nd rfl (.inl rfl))) (fun _ _ _ _ _ => pts_nil) (fun _ _ _ _ _ => (pe_tup (pa_cons (pv 4) (pa_cons (pe_call cCl.G hr3 rfl cCl.m cCl.kp cCl.b .nil pass0 (pa_cons (pv 0) (pa_cons (pv 4) pa_nil))) pa_nil)))))
      (pss_one (ps_ret (pe_cmpR op_eq (pe_callB call_len_seq (by rfl) T.len PySem.boot_len (pa_cons (pe_call cFi1.G hr33 rfl cFi1.m cFi1.kp cFi1.b .nil pass0 (pa_cons (pe_call cTo.G hr2 rfl cTo.m cTo.kp cTo.b .nil pass0 (pa_cons (pe_lc (own := [("word", 4)]) (g := gName 4) (tt := tYes) rfl scDu.nd (pi_list (pv 1)) (blkOk_by (N := ["plain", "rows", "columns", "ends", "word"]) (sc := (defScope sDu)) (by decide +kernel)) (fun _ _ _ _ _ => (pg_name (i := 4) scDu.nd rfl (.inl rfl))) (fun _ _ _ _ _ => pts_nil) (fun _ _ _ _ _ => (pe_tup (pa_cons (pv 4) (pa_cons (pe_call cRo.G hr3 rfl cRo.m cRo.kp cRo.b .nil pass0 (pa_cons (pv 0) (pa_cons (pv 4) pa_nil))) pa_nil))))) (pa_cons (pv 3) pa_nil))) pa_nil)) pa_nil)) (pe_callB call_len_seq (by rfl) T.len PySem.boot_len (pa_cons (pv 1) pa_nil)) (nomark _))))), ?_⟩
    refine ⟨_, rfl, pr, _, rfl, .inl (SqL.of hpr), _, rfl, pc, _, rfl, .inl (SqL.of hpc), rfl, _, rfl, ite2 (fun e => ?_) (fun e => ?_)⟩
    · have ne : us.length ≠ ss.length := fun h => by
        have e : (!decide (V.int ((wV us).length : Int) = V.int ((wV ss).length : Int))) = true := e
        rw [wV_len, wV_len, h] at e
        simp at e
      have := kk H (Same.refl _)
      rw [bP_false fun h => ne h.1] at this
      exact this
    · have eq : us.length = ss.length := Classical.byContradiction fun ne => e (by
        show (!decide (V.int ((wV us).length : Int) = V.int ((wV ss).length : Int))) = true
        rw [wV_len, wV_len, decide_eq_false (fun h => ne (by injection h with h; omega))]
        rfl)
      refine ⟨_, rfl, pc, rfl, ⟨_, SqL.of hpc⟩, fun D nD => ?_⟩
      refine lc_it (walk_list (K := K) (a := pc) (xs := wV ss)) (fun i G => Bld C Emp Emp H D (datW p.n (clI p) (ss.take i)) G) (bld0 nD) (fun i G _ h => SqL.of (h.k.same _ _ hpc)) ?_ ?_
      · rintro i x G1 G2 hi bD ⟨rfl, hx⟩
        obtain ⟨u, hu, rfl⟩ := wV_at hx
        have um := List.mem_of_getElem? hu
        have sD := bD.k.same
        refine ⟨rfl, _, rfl, _, rfl, _, rfl, pq, p, u, rfl, hp.same sD, pb, (ms u um).2, by have := (ms u um).1; omega, fun r G3 s3 h3 no => ?_⟩
        refine ⟨(by show 2 ≤ sizeLine; decide), fun T nT => ?_⟩
        obtain ⟨ac0, hD2, _⟩ := bD.xs
        have sT : Same G3 (upd G3 T (.tup [.str (wd u), .ref r])) := Same.upd nT
        have TD : T ≠ D := fun e => by have := s3 _ _ hD2; rw [e, this] at nT; cases nT
        have hT : At C (And1 Emp D) (upd G3 T (.tup [.str (wd u), .ref r])) (.ref T) (prI p.n u (clI p u)) := at_prI upd_same (sT _ _ h3) (fun z => z.elim id TD) (fun z => z.elim id (nD' sD nD no (by rw [hD2]; intro z; cases z)))
        obtain ⟨acc, a1, a2, a3⟩ := bD.step nD (Same.keep (s3.trans sT)) (fun _ z => z.elim) id hT
        refine ⟨acc, a1, ?_, ?_⟩
        · rw [a2, datW_len, List.length_take]; exact small1000 (by omega)
        · rw [datW_more hu]
          exact a3
      rintro G bD
      rw [wV_len, List.take_length] at bD
      have sD := bD.k.same
      have aC := bD.done id
      refine ⟨_, rfl, pr, rfl, ⟨_, SqL.of (sD _ _ hpr)⟩, fun L nL => ?_⟩
      have nL0 : H L = none := sD.free nL
      refine lc_it (walk_list (K := K) (a := pr) (xs := wV us)) (fun i G' => Bld C Emp Emp G L (datW p.n (rwI p p.s) (us.take i)) G') (bld0 nL) (fun i G' _ h => SqL.of (h.k.same _ _ (sD _ _ hpr))) ?_ ?_
      · rintro i x G1 G2 hi bL ⟨rfl, hx⟩
        obtain ⟨u, hu, rfl⟩ := wV_at hx
        have um := List.mem_of_getElem? hu
        have sL := bL.k.same
        refine ⟨rfl, _, rfl, _, rfl, _, rfl, pq, p, u, rfl, hp.same (sD.trans sL), pb, (mu u um).2, by have := (mu u um).1; omega, fun r G3 s3 h3 no => ?_⟩
        refine ⟨(by show 2 ≤ sizeLine; decide), fun T nT => ?_⟩
        obtain ⟨ac0, hL2, _⟩ := bL.xs
        have sT : Same G3 (upd G3 T (.tup [.str (wd u), .ref r])) := Same.upd nT
        have TL : T ≠ L := fun e => by have := s3 _ _ hL2; rw [e, this] at nT; cases nT
        have hT : At C (And1 Emp L) (upd G3 T (.tup [.str (wd u), .ref r])) (.ref T) (prI p.n u (rwI p p.s u)) := at_prI upd_same (sT _ _ h3) (fun z => z.elim id TL) (fun z => z.elim id (nD' (sD.trans sL) nL0 no (by rw [hL2]; intro z; cases z)))
        obtain ⟨acc, a1, a2, a3⟩ := bL.step nL (Same.keep (s3.trans sT)) (fun _ z => z.elim) id hT
        refine ⟨acc, a1, ?_, ?_⟩
        · rw [a2, datW_len, List.length_take]; exact small1000 (by omega)
        · rw [datW_more hu]
          exact a3
      rintro G2 bL
      rw [wV_len, List.take_length] at bL
      have sL := bL.k.same
      have aR := bL.done id
      refine ⟨_, rfl, L, D, p.n, 400, rwI p p.s, clI p, us, ss, rfl, aR, aC.same sL, n12, by omega, by omega, fun u hu => rw_bt pb (mu u hu), fun u hu => cl_bt pb (ms u hu), by decide, fun r4 H4 s4 a4 => ?_⟩
      refine ⟨r4, ss.length, 804, _, us, rfl, a4, ls, by omega, td_bt n12 (fun u hu => rw_bt pb (mu u hu)) (fun u hu => cl_bt pb (ms u hu)), by decide, fun r5 H5 vs s5 a5 m5 l5 c5 _ _ => ?_⟩
      obtain ⟨xs, hxs, lx, _⟩ := a5.lstE
      have sa := sD.trans (sL.trans (s4.trans s5))
      refine ⟨r5, _, rfl, .inl (SqL.of hxs), _, rfl, pr, _, rfl, .inl (SqL.of (sa _ _ hpr)), rfl, ?_⟩
      have := kk H5 sa
      rw [datW_len] at lx
      show Q (.bl (decide (V.int (xs.length : Int) = V.int ((wV us).length : Int)))) H5
      rw [wV_len, lx]
      have e : decide (V.int (vs.length : Int) = V.int (us.length : Int)) = bP (us.length = ss.length ∧ IndW ss.length (tD p.n (rwI p p.s) (clI p) ss) us) := by
        rw [bP_eq]
        refine bP_iff ⟨fun h => ⟨eq, c5.mp (by injection h with h; omega)⟩, fun h => by rw [c5.mpr h.2]⟩
      rw [e]
      exact this
end
end RX

set_option Elab.async false
set_option maxRecDepth 100000
set_option exponentiation.threshold 100000
namespace RX
open PySem L2 LX VA VM VN
open RQ (Hg Bt)
/-! ### the numbers of an alike machine over those of the plain one; sizes -/
theorem topz_cb {u : Nat → Rat} {n j : Nat} (h : j < n) : ((topz u ((cb u n : Nat) : Int) j : Int) : Rat) = u j * (((cb u n : Nat) : Int) : Rat) := topz_eq (Int.natCast_dvd_natCast.mpr (cb_dvd h))
def bU (b : Nat → Int) : List Nat → Int
  | [] => 1
  | x :: w => b (x + 1) * bU b w
/-- the bottoms of an alike machine -/
def bS (b : Nat → Int) (e : Nat) : List Nat → Int
  | [] => 1
  | x :: w => b (x + 1) * 6 ^ e * bS b e w
theorem bS_eq {b : Nat → Int} {e : Nat} : ∀ {w : List Nat}, bS b e w = bU b w * 6 ^ (e * w.length)
  | [] => by show (1 : Int) = 1 * 6 ^ (e * 0); rw [Nat.mul_zero]; rfl
  | x :: w => by
    show b (x + 1) * 6 ^ e * bS b e w = b (x + 1) * bU b w * 6 ^ (e * (w.length + 1))
    rw [bS_eq, Nat.mul_succ, Int.pow_add]
    simp only [Int.mul_comm, Int.mul_left_comm, Int.mul_assoc]
theorem bU_ne {k : Nat} {b : Nat → Int} (hb : Bots k b) : ∀ {w : List Nat}, Ltk k w → bU b w ≠ 0
  | [], _ => by show (1 : Int) ≠ 0; decide
  | x :: w, h => Int.mul_ne_zero (hb.h _ (by have := h x List.mem_cons_self; omega)).1 (bU_ne hb fun y hy => h y (List.mem_cons_of_mem _ hy))
theorem bU_bt {k : Nat} {b : Nat → Int} (hb : Bots k b) : ∀ {w : List Nat}, Ltk k w → Bt (70 * w.length + 1) (bU b w)
  | [], _ => by show (1 : Int).natAbs < 2 ^ 1; decide
  | x :: w, h => by
    have h1 := (hb.h (x + 1) (by have := h x List.mem_cons_self; omega)).2.mul (bU_bt hb fun y hy => h y (List.mem_cons_of_mem _ hy))
    exact h1.up (by rw [List.length_cons]; omega)
/-! rows and columns of the plain machine -/
theorem row_m0 {p : Pl} {w : List Nat} : ∀ {z : Nat → Int} {c : Int} {r : Nat → Rat}, (∀ j, j < p.n → r j = (z j : Rat) * (c : Rat)⁻¹) → ∀ j, j < p.n → VN.row p.n (m0 p).t r w j = (rwI p z w j : Rat) * ((c * bU p.b w : Int) : Rat)⁻¹ := by
  induction w with
  | nil =>
    intro z c r h j hj
    show r j = (z j : Rat) * ((c * 1 : Int) : Rat)⁻¹
    rw [Int.mul_one]
    exact h j hj
  | cons x w ih =>
    intro z c r h j hj
    show VN.row p.n (m0 p).t (fun y => dot r (fun l => (m0 p).t x l y) p.n) w j = (rwI p (ahd p.n z (p.t x)) w j : Rat) * ((c * (p.b (x + 1) * bU p.b w) : Int) : Rat)⁻¹
    rw [← Int.mul_assoc]
    refine ih (fun y hy => ?_) j hj
    show dot r (fun l => (p.t x l y : Rat) / (p.b (x + 1) : Rat)) p.n = ((wsum z (fun i => p.t x i y) p.n : Int) : Rat) * ((c * p.b (x + 1) : Int) : Rat)⁻¹
    rw [dot_congr (u' := fun i => (z i : Rat) * (c : Rat)⁻¹) (y' := fun i => (p.t x i y : Rat) * (p.b (x + 1) : Rat)⁻¹) h (fun i _ => Rat.div_def _ _), dot_scaled, wsum_cast, Rat.intCast_mul, Rat.inv_mul_rev, Rat.mul_comm (c : Rat)⁻¹]
theorem col_m0 {p : Pl} {c : Int} {e : Nat → Rat} (h : ∀ j, j < p.n → e j = (p.e j : Rat) * (c : Rat)⁻¹) : ∀ {w : List Nat}, ∀ j, j < p.n → VN.col p.n (m0 p).t e w j = (clI p w j : Rat) * ((c * bU p.b w : Int) : Rat)⁻¹
  | [] => fun j hj => by
    show e j = (p.e j : Rat) * ((c * 1 : Int) : Rat)⁻¹
    rw [Int.mul_one]
    exact h j hj
  | x :: w => fun j hj => by
    have ih := col_m0 h (w := w)
    show dot (fun l => (p.t x j l : Rat) / (p.b (x + 1) : Rat)) (VN.col p.n (m0 p).t e w) p.n = ((wsum (p.t x j) (clI p w) p.n : Int) : Rat) * ((c * (p.b (x + 1) * bU p.b w) : Int) : Rat)⁻¹
    rw [dot_congr (u' := fun i => (p.t x j i : Rat) * (p.b (x + 1) : Rat)⁻¹) (y' := fun i => (clI p w i : Rat) * ((c * bU p.b w : Int) : Rat)⁻¹) (fun i _ => Rat.div_def _ _) ih, dot_scaled, wsum_cast, ← Rat.inv_mul_rev, ← Rat.intCast_mul]
    congr 3
    simp only [Int.mul_comm, Int.mul_left_comm, Int.mul_assoc]
theorem nbr_m0 {p : Pl} {u s : List Nat} : nbr (m0 p) (u ++ s) = ((wsum (rwI p p.s u) (clI p s) p.n : Int) : Rat) * (((p.b 0 * bU p.b u : Int) : Rat)⁻¹ * ((p.b (p.k + 1) * bU p.b s : Int) : Rat)⁻¹) := by
  show dot (VN.row p.n (m0 p).t (m0 p).s (u ++ s)) (m0 p).e p.n = _
  have e1 : dot (VN.row p.n (m0 p).t (m0 p).s u) (VN.col p.n (m0 p).t (m0 p).e s) p.n = dot (fun i => (rwI p p.s u i : Rat) * ((p.b 0 * bU p.b u : Int) : Rat)⁻¹) (fun i => (clI p s i : Rat) * ((p.b (p.k + 1) * bU p.b s : Int) : Rat)⁻¹) p.n :=
    dot_congr (row_m0 (z := p.s) (c := p.b 0) fun j _ => Rat.div_def _ _) (col_m0 (c := p.b (p.k + 1)) fun j _ => Rat.div_def _ _)
  rw [VN.meet_append, e1, dot_scaled, wsum_cast]
/-! sizes -/
theorem row_ov {n k e S : Nat} {b : Nat → Int} {t : Nat → Nat → Nat → Rat} (ht : ∀ x, x < k → ∀ i, i < n → ∀ j, j < n → VM.Ov (b (x + 1) * 6 ^ e) S (t x i j)) : ∀ {w : List Nat} {M : Int} {T : Nat} {r : Nat → Rat}, Ltk k w → (∀ j, j < n → VM.Ov M T (r j)) → ∀ j, j < n → VM.Ov (M * bS b e w) (T + (S + n) * w.length) (VN.row n t r w j)
  | [], M, T, r, _, hr => fun j hj => by
    show VM.Ov (M * 1) (T + (S + n) * 0) (r j)
    rw [Int.mul_one, Nat.mul_zero]
    exact hr j hj
  | x :: w, M, T, r, hw, hr => fun j hj => by
    have hx := hw x List.mem_cons_self
    have := row_ov ht (w := w) (M := M * (b (x + 1) * 6 ^ e)) (T := T + S + n) (r := fun y => dot r (fun l => t x l y) n) (fun y hy => hw y (List.mem_cons_of_mem _ hy)) (fun y hy => VM.Ov.dot fun l hl => (hr l hl).mul (ht x hx l hl y hy)) j hj
    show VM.Ov (M * (b (x + 1) * 6 ^ e * bS b e w)) (T + (S + n) * (w.length + 1)) _
    rw [← Int.mul_assoc M]
    exact this.up (by rw [Nat.mul_succ]; omega)
theorem col_ov {n k e S : Nat} {b : Nat → Int} {t : Nat → Nat → Nat → Rat} (ht : ∀ x, x < k → ∀ i, i < n → ∀ j, j < n → VM.Ov (b (x + 1) * 6 ^ e) S (t x i j)) {M : Int} {T : Nat} {c : Nat → Rat} (hc : ∀ j, j < n → VM.Ov M T (c j)) : ∀ {w : List Nat}, Ltk k w → ∀ j, j < n → VM.Ov (M * bS b e w) (T + (S + n) * w.length) (VN.col n t c w j)
  | [], _ => fun j hj => by
    show VM.Ov (M * 1) (T + (S + n) * 0) (c j)
    rw [Int.mul_one, Nat.mul_zero]
    exact hc j hj
  | x :: w, hw => fun j hj => by
    have hx := hw x List.mem_cons_self
    have ih := col_ov ht hc (w := w) fun y hy => hw y (List.mem_cons_of_mem _ hy)
    have h1 : VM.Ov (b (x + 1) * 6 ^ e * (M * bS b e w)) (S + (T + (S + n) * w.length) + n) (dot (t x j) (VN.col n t c w) n) := VM.Ov.dot fun l hl => (ht x hx j hj l hl).mul (ih l hl)
    show VM.Ov (M * (b (x + 1) * 6 ^ e * bS b e w)) (T + (S + n) * (w.length + 1)) _
    have e1 : M * (b (x + 1) * 6 ^ e * bS b e w) = b (x + 1) * 6 ^ e * (M * bS b e w) := by simp only [Int.mul_comm, Int.mul_left_comm, Int.mul_assoc]
    rw [e1]
    exact h1.up (by rw [Nat.mul_succ]; omega)
theorem szm_msz {m : Mc} {b : Nat → Int} {l : Nat} (z : Szm m b l (84 + 12 * l)) (hb : Bots m.k b) (l4 : l ≤ 4) : Msz m 100 132 := by
  have B : ∀ j, j < m.k + 2 → ∀ e, e ≤ 9 → b j * 6 ^ e ≠ 0 ∧ Bt 100 (b j * 6 ^ e) := fun j hj e he => bot_six (hb.h j hj) (by omega)
  refine ⟨?_, ?_, fun x hx => ?_, by decide, by decide⟩
  · exact szr_of (B 0 (by omega) (l + 1) (by omega)).1 (B 0 (by omega) (l + 1) (by omega)).2 fun j hj => (z.s j hj).up (by omega)
  · exact szr_of (B (m.k + 1) (by omega) (l + 1) (by omega)).1 (B (m.k + 1) (by omega) (l + 1) (by omega)).2 fun j hj => (z.e j hj).up (by omega)
  · exact szt_of (B (x + 1) (by omega) (2 * l + 1) (by omega)).1 (B (x + 1) (by omega) (2 * l + 1) (by omega)).2 fun i hi j hj => (z.t x hx i hi j hj).up (by omega)
/-- the bottom of the row of a word -/
def bR (p : Pl) (u : List Nat) : Int := p.b 0 * bU p.b u
def bC (p : Pl) (u : List Nat) : Int := p.b (p.k + 1) * bU p.b u
theorem bR_ne {p : Pl} (h : PlB p) {u : List Nat} (hu : Ltk p.k u) : bR p u ≠ 0 := Int.mul_ne_zero (h.b.h 0 (by omega)).1 (bU_ne h.b hu)
theorem bC_ne {p : Pl} (h : PlB p) {u : List Nat} (hu : Ltk p.k u) : bC p u ≠ 0 := Int.mul_ne_zero (h.b.h (p.k + 1) (by omega)).1 (bU_ne h.b hu)
def hdI (m : Mc) (u : List Nat) : Nat → Int := topz (rowN m u) ((cb (rowN m u) m.n : Nat) : Int)
def tlI (m : Mc) (u : List Nat) : Nat → Int := topz (VN.col m.n m.t m.e u) ((cb (VN.col m.n m.t m.e u) m.n : Nat) : Int)
theorem pw6 {l q : Nat} (l4 : l ≤ 4) (hq : q ≤ 11) : (6 : Nat) ^ (l + 1 + (2 * l + 1) * q) < 2 ^ 277 := by
  have h1 : (2 * l + 1) * q ≤ 9 * 11 := Nat.mul_le_mul (by omega) hq
  refine Nat.lt_of_le_of_lt (Nat.pow_le_pow_right (by decide) (show l + 1 + (2 * l + 1) * q ≤ 104 by omega)) ?_
  decide +kernel
theorem six_abs (e : Nat) : ((6 : Int) ^ e).natAbs = 6 ^ e := by rw [Int.natAbs_pow]; rfl
/-- a common bottom, under one that is known -/
theorem cb_le {n T : Nat} {u : Nat → Rat} {B : Int} {e : Nat} (B0 : B ≠ 0) (h : ∀ j, j < n → VM.Ov (B * 6 ^ e) T (u j)) : cb u n ≤ B.natAbs * 6 ^ e := by
  have m0 : B * 6 ^ e ≠ 0 := Int.mul_ne_zero B0 (six_ne e)
  have dv : cb u n ∣ (B * 6 ^ e).natAbs := cb_least fun i hi => by
    have := ((h i hi).den m0).1
    have := Int.natAbs_dvd_natAbs.mpr this
    rwa [Int.natAbs_natCast] at this
  have := Nat.le_of_dvd (by omega) dv
  rwa [Int.natAbs_mul, six_abs] at this
section
variable {p : Pl} {m : Mc} {l : Nat} (pb : PlB p) (al : Alk p m l) (l4 : l ≤ 4) (n14 : m.n ≤ 14)
include pb al l4 n14
theorem hd_ov {u : List Nat} (hu : Ltk p.k u) : ∀ j, j < m.n → VM.Ov (bR p u * 6 ^ (l + 1 + (2 * l + 1) * u.length)) (132 + (132 + 14) * u.length) (rowN m u j) := fun j hj => by
  have := row_ov (n := m.n) (k := m.k) (e := 2 * l + 1) (S := 84 + 12 * l) (b := p.b) (t := m.t) al.z.t (w := u) (by rw [al.k]; exact hu) al.z.s j hj
  have e1 : p.b 0 * 6 ^ (l + 1) * bS p.b (2 * l + 1) u = bR p u * 6 ^ (l + 1 + (2 * l + 1) * u.length) := by
    rw [bS_eq, bR, Int.pow_add (6 : Int) (l + 1) ((2 * l + 1) * u.length)]
    simp only [Int.mul_comm, Int.mul_left_comm, Int.mul_assoc]
  rw [e1] at this
  exact this.up (Nat.add_le_add (by omega) (Nat.mul_le_mul_right _ (by omega)))
theorem tl_ov {u : List Nat} (hu : Ltk p.k u) : ∀ j, j < m.n → VM.Ov (bC p u * 6 ^ (l + 1 + (2 * l + 1) * u.length)) (132 + (132 + 14) * u.length) (VN.col m.n m.t m.e u j) := fun j hj => by
  have := col_ov (n := m.n) (k := m.k) (e := 2 * l + 1) (S := 84 + 12 * l) (b := p.b) (t := m.t) al.z.t al.z.e (w := u) (by rw [al.k]; exact hu) j hj
  have e1 : p.b (m.k + 1) * 6 ^ (l + 1) * bS p.b (2 * l + 1) u = bC p u * 6 ^ (l + 1 + (2 * l + 1) * u.length) := by
    rw [bS_eq, bC, al.k, Int.pow_add (6 : Int) (l + 1) ((2 * l + 1) * u.length)]
    simp only [Int.mul_comm, Int.mul_left_comm, Int.mul_assoc]
  rw [e1] at this
  exact this.up (Nat.add_le_add (by omega) (Nat.mul_le_mul_right _ (by omega)))
theorem b_bt {b : Int} {u : List Nat} (hb : Bt 70 b) (hu : Ltk p.k u) (lu : u.length ≤ 11) : Bt 1200 (b * bU p.b u * 6 ^ (l + 1 + (2 * l + 1) * u.length)) := by
  have h1 : (2 * l + 1) * u.length ≤ 9 * 11 := Nat.mul_le_mul (by omega) lu
  exact ((hb.mul (bU_bt pb.b hu)).mul (six_bt _)).up (by omega)
theorem hd_sz {u : List Nat} (hu : Ltk p.k u) (lu : u.length ≤ 11) : SzR m.n (rowN m u) 1200 2000 :=
  szr_of (Int.mul_ne_zero (bR_ne pb hu) (six_ne _)) (b_bt pb al l4 n14 (pb.b.h 0 (by omega)).2 hu lu) fun j hj => (hd_ov pb al l4 n14 hu j hj).up (by omega)
theorem tl_sz {u : List Nat} (hu : Ltk p.k u) (lu : u.length ≤ 11) : SzR m.n (VN.col m.n m.t m.e u) 1200 2000 :=
  szr_of (Int.mul_ne_zero (bC_ne pb hu) (six_ne _)) (b_bt pb al l4 n14 (pb.b.h (p.k + 1) (by omega)).2 hu lu) fun j hj => (tl_ov pb al l4 n14 hu j hj).up (by omega)
/-- one number of the table of is_corner -/
theorem cor_eq {u s : List Nat} (hu : Ltk p.k u) (hs : Ltk p.k s) : wsum (hdI m u) (tlI m s) m.n * (bR p u * bC p s) = ((cb (rowN m u) m.n : Nat) : Int) * ((cb (VN.col m.n m.t m.e s) m.n : Nat) : Int) * wsum (rwI p p.s u) (clI p s) p.n := by
  refine Rat.intCast_inj.mp ?_
  have e1 : ((wsum (hdI m u) (tlI m s) m.n : Int) : Rat) = nbr m (u ++ s) * ((((cb (rowN m u) m.n : Nat) : Int) : Rat) * (((cb (VN.col m.n m.t m.e s) m.n : Nat) : Int) : Rat)) := by
    have e0 : dot (fun i => ((hdI m u i : Int) : Rat)) (fun i => ((tlI m s i : Int) : Rat)) m.n = dot (fun i => rowN m u i * (((cb (rowN m u) m.n : Nat) : Int) : Rat)) (fun i => VN.col m.n m.t m.e s i * (((cb (VN.col m.n m.t m.e s) m.n : Nat) : Int) : Rat)) m.n := dot_congr (fun j hj => topz_cb hj) (fun j hj => topz_cb hj)
    rw [wsum_cast, e0, dot_scaled]
    unfold nbr rowN
    rw [VN.meet_append]
  have hus : Ltk p.k (u ++ s) := fun x hx => (List.mem_append.mp hx).elim (hu x) (hs x)
  rw [al.nb _ hus, nbr_m0] at e1
  have e1 : ((wsum (hdI m u) (tlI m s) m.n : Int) : Rat) = ((wsum (rwI p p.s u) (clI p s) p.n : Int) : Rat) * (((bR p u : Int) : Rat)⁻¹ * ((bC p s : Int) : Rat)⁻¹) * ((((cb (rowN m u) m.n : Nat) : Int) : Rat) * (((cb (VN.col m.n m.t m.e s) m.n : Nat) : Int) : Rat)) := e1
  rw [Rat.intCast_mul, Rat.intCast_mul (bR p u), e1, Rat.intCast_mul, Rat.intCast_mul]
  have i1 : ((bR p u : Int) : Rat)⁻¹ * ((bR p u : Int) : Rat) = 1 := Rat.inv_mul_cancel _ (DT.ic (bR_ne pb hu))
  have i2 : ((bC p s : Int) : Rat)⁻¹ * ((bC p s : Int) : Rat) = 1 := Rat.inv_mul_cancel _ (DT.ic (bC_ne pb hs))
  generalize ((bR p u : Int) : Rat) = x at *
  generalize ((bC p s : Int) : Rat) = y at *
  generalize (((cb (rowN m u) m.n : Nat) : Int) : Rat) = a at *
  generalize (((cb (VN.col m.n m.t m.e s) m.n : Nat) : Int) : Rat) = c at *
  generalize ((wsum (rwI p p.s u) (clI p s) p.n : Int) : Rat) = z at *
  clear e1
  have : z * (x⁻¹ * y⁻¹) * (a * c) * (x * y) = a * c * z * ((x⁻¹ * x) * (y⁻¹ * y)) := by grind
  rw [this, i1, i2, Rat.one_mul, Rat.mul_one]
theorem cor_bt {u s : List Nat} (hu : Ltk p.k u) (hs : Ltk p.k s) (lu : u.length ≤ 11) (ls : s.length ≤ 11) : (wsum (hdI m u) (tlI m s) m.n).natAbs ≤ 2 ^ 1026 := by
  have e := congrArg Int.natAbs (cor_eq pb al l4 n14 hu hs)
  rw [Int.natAbs_mul, Int.natAbs_mul, Int.natAbs_mul, Int.natAbs_mul, Int.natAbs_natCast, Int.natAbs_natCast] at e
  have h1 := cb_le (bR_ne pb hu) (hd_ov pb al l4 n14 hu)
  have h2 := cb_le (bC_ne pb hs) (tl_ov pb al l4 n14 hs)
  have p1 := pw6 l4 lu
  have p2 := pw6 l4 ls
  have n12 := pb.n12
  have b3 : Bt 472 (wsum (rwI p p.s u) (clI p s) p.n) := (wsum_bt4 (a := 234) (b := 234) (by omega) fun i hi => ⟨(rwI_bt pb hu pb.s i hi).up (by omega), (clI_bt pb hs i hi).up (by omega)⟩).up (by decide)
  have b3 : (wsum (rwI p p.s u) (clI p s) p.n).natAbs < 2 ^ 472 := b3
  have r0 : 0 < (bR p u).natAbs := by have := bR_ne pb hu; omega
  have c0 : 0 < (bC p s).natAbs := by have := bC_ne pb hs; omega
  generalize (wsum (hdI m u) (tlI m s) m.n).natAbs = Z at *
  generalize (wsum (rwI p p.s u) (clI p s) p.n).natAbs = N at *
  generalize (bR p u).natAbs = x at *
  generalize (bC p s).natAbs = y at *
  generalize (6 : Nat) ^ (l + 1 + (2 * l + 1) * u.length) = f at *
  generalize (6 : Nat) ^ (l + 1 + (2 * l + 1) * s.length) = g at *
  generalize cb (rowN m u) m.n = a at *
  generalize cb (VN.col m.n m.t m.e s) m.n = c at *
  have h3 : a * c * N ≤ (x * f) * (y * g) * N := Nat.mul_le_mul_right _ (Nat.mul_le_mul h1 h2)
  rw [← e] at h3
  have h4 : (x * f) * (y * g) * N = (f * g * N) * (x * y) := by simp only [Nat.mul_comm, Nat.mul_left_comm]
  rw [h4] at h3
  have h5 := Nat.le_of_mul_le_mul_right h3 (Nat.mul_pos r0 c0)
  have h6 : f * g ≤ 2 ^ 277 * 2 ^ 277 := Nat.mul_le_mul (by omega) (by omega)
  have h7 : f * g * N ≤ 2 ^ 277 * 2 ^ 277 * 2 ^ 472 := Nat.mul_le_mul h6 (by omega)
  rw [← Nat.pow_add, ← Nat.pow_add] at h7
  exact Nat.le_trans h5 h7
end
theorem big_ok {n : Nat} (h : n ≤ 12) : (n * 2 ^ 1026) ^ n < 2 ^ 12999 := by
  have h1 : n * 2 ^ 1026 ≤ 2 ^ 4 * 2 ^ 1026 := Nat.mul_le_mul_right _ (by show n ≤ 16; omega)
  rw [← Nat.pow_add] at h1
  refine Nat.lt_of_le_of_lt (Nat.pow_le_pow_left h1 n) ?_
  rw [← Nat.pow_mul]
  exact Nat.pow_lt_pow_right (by decide) (Nat.lt_of_le_of_lt (Nat.mul_le_mul_left _ h) (by decide))
/-- rows and columns times numbers that are not 0 -/
theorem spn_scale {n k : Nat} {a d z : Nat → Nat → Rat} {v w : Nat → Rat} {al be : Nat → Rat} {ga : Rat} (h : DT.Spn n k a v) (a0 : ∀ t, t < k → al t ≠ 0) (e : ∀ t, t < k → ∀ x, x < n → d t x = al t * be x * a t x) (ev : ∀ x, x < n → w x = ga * be x * v x) : DT.Spn n k d w := by
  obtain ⟨c, hc⟩ := h
  refine ⟨fun t => ga * c t * (al t)⁻¹, fun x hx => ?_⟩
  rw [ev x hx, hc x hx, ← DT.sm_mul]
  exact DT.sm_congr fun t ht => by
    rw [e t ht x hx]
    have i := Rat.inv_mul_cancel _ (a0 t ht)
    have : ga * c t * (al t)⁻¹ * (al t * be x * a t x) = ((al t)⁻¹ * al t) * (ga * c t * be x * a t x) := by grind
    rw [this, i, Rat.one_mul]
    grind
theorem ind_scale {n h : Nat} {a d : Nat → Nat → Rat} {al be : Nat → Rat} (a0 : ∀ t, t < h → al t ≠ 0) (e : ∀ t, t < h → ∀ x, x < n → d t x = al t * be x * a t x) (i : DT.Ind n h d) : DT.Ind n h a := fun l hl s =>
  i l hl (spn_scale (z := a) s (fun t ht => a0 t (by omega)) (fun t ht => e t (by omega)) (e l hl))
theorem ind_scale2 {n h : Nat} {a d : Nat → Nat → Rat} {al be : Nat → Rat} (a0 : ∀ t, t < h → al t ≠ 0) (b0 : ∀ x, x < n → be x ≠ 0) (e : ∀ t, t < h → ∀ x, x < n → d t x = al t * be x * a t x) : DT.Ind n h d ↔ DT.Ind n h a :=
  ⟨ind_scale a0 e, ind_scale (al := fun t => (al t)⁻¹) (be := fun x => (be x)⁻¹) (fun t ht z => by
    have := Rat.inv_mul_cancel _ (a0 t ht)
    rw [show (al t)⁻¹ = 0 from z, Rat.zero_mul] at this
    exact absurd this (by decide)) (fun t ht x hx => by
    have i1 := Rat.inv_mul_cancel _ (a0 t ht)
    have i2 := Rat.inv_mul_cancel _ (b0 x hx)
    rw [e t ht x hx]
    have : (al t)⁻¹ * (be x)⁻¹ * (al t * be x * a t x) = ((al t)⁻¹ * al t) * ((be x)⁻¹ * be x) * a t x := by grind
    rw [this, i1, i2, Rat.one_mul, Rat.one_mul])⟩
end RX

set_option Elab.async false
set_option maxRecDepth 100000
namespace RX
open PySem L2 LX VA
open RQ (Hg Bt)
abbrev sRow : Stmt := inClass (topS 28) 4
theorem scRow : FnScope ["self", "word", "tops", "bottom"] ["self", "word"] (defScope sRow) := ⟨rfl, rfl, rfl, by decide +kernel, rfl, by decide +kernel, by decide +kernel⟩
abbrev sCol : Stmt := inClass (topS 28) 5
theorem scCol : FnScope ["self", "word", "tops", "bottom", "steps", "letter"] ["self", "word"] (defScope sCol) := ⟨rfl, rfl, rfl, by decide +kernel, rfl, by decide +kernel, by decide +kernel⟩
abbrev sTab : Stmt := inClass (topS 28) 6
theorem scTab : FnScope ["self", "word", "places", "lines", "bottom", "letter", "rows", "below", "at", "line", "place"] ["self", "word"] (defScope sTab) := ⟨rfl, rfl, rfl, by decide +kernel, rfl, by decide +kernel, by decide +kernel⟩
abbrev outTab0 : Scope := { kind := .function, names := [(".0", .local), ("at", .cell), ("places", .cell)], isGenerator := false, isCoroutine := false }
theorem walk_back {z : Str} : Walk (RS.Itb z) z.length (fun _ => True) (fun i H v H' => H' = H ∧ ∃ c, z.cps[z.length - 1 - i]? = some c ∧ v = .str ⟨#[c]⟩) :=
  ⟨fun _ _ hi _ => hi, fun _ _ => Nat.le_refl _, fun _ _ _ _ _ _ y => y⟩
def spRow (C CM : Addr) : Sp := fun vs H Q _ => ∃ (N : Addr → Prop) (p ab : Addr) (m : Mc) (u : List Nat) (b t : Nat), vs = [.ref p, .str (wd u)] ∧ MachAt C CM N H p ab m ∧ Alc N H ∧ Ltk m.k u ∧ u.length ≤ 400 ∧ Msz m b t ∧
  ∀ (r : Addr) (H' : Hp), But ab H H' → H r = none → MachAt C CM N H' p ab m → At C N H' (.ref r) (ratR m.n (rowN m u)) → Q (.ref r) H'
def colN (m : Mc) (u : List Nat) : Nat → Rat := VN.col m.n m.t m.e u
def tabN (m : Mc) (u : List Nat) : Nat → Nat → Rat := VN.tab m.n m.t u
def spCol (C CM : Addr) : Sp := fun vs H Q _ => ∃ (N : Addr → Prop) (p ab : Addr) (m : Mc) (u : List Nat) (b t : Nat), vs = [.ref p, .str (wd u)] ∧ MachAt C CM N H p ab m ∧ Alc N H ∧ Ltk m.k u ∧ u.length ≤ 400 ∧ Msz m b t ∧
  ∀ (r : Addr) (H' : Hp), But ab H H' → H r = none → MachAt C CM N H' p ab m → At C N H' (.ref r) (ratR m.n (colN m u)) → Q (.ref r) H'
def spTab (C CM : Addr) : Sp := fun vs H Q _ => ∃ (N : Addr → Prop) (p ab : Addr) (m : Mc) (u : List Nat) (b t : Nat), vs = [.ref p, .str (wd u)] ∧ MachAt C CM N H p ab m ∧ Alc N H ∧ Ltk m.k u ∧ u.length ≤ 400 ∧ Msz m b t ∧
  ∀ (r : Addr) (H' : Hp), But ab H H' → H r = none → MachAt C CM N H' p ab m → At C N H' (.ref r) (ratT m.n m.n (tabN m u)) → Q (.ref r) H'
section
variable {P : Program} {w : World} {K : PySem.W.Frag} {mg : Str → Option Value} {base : Heap}
theorem ok_row {f fR fT C CM : Addr} {fd dR dT : FuncData} (F : Fun K "row" "Machine.row" sRow f fd) (TM : TxtM K mg CM)
    (cRw : MetN P w K mg base CM "_row_above" 36 ["self", "word"] (spRwa C CM) fR dR) (cRt : CalN P w K mg base "ratios" 35 ["tops", "bottom"] (spRts C) fT dT) :
    FnOk P w K mg base CX0 37 f fd ["self", "word"] (spRow C CM) := by
  refine F.ok scRow (fun vs H Q E h => ?_) (fun cdv A outer s H vs Q E hr h => ?_)
  · obtain ⟨N, p, ab, m, u, b, t, rfl, _⟩ := h
    rfl
  · obtain ⟨N, p, ab, m, u, b, t, rfl, hm, al, hu, lu, sz, k⟩ := h
    have hr35 : Room 35 _ := hr.mono (by decide)
    have hr36 : Room 36 _ := hr
    have n1 := hm.n1
    have na := hm.na
    obtain ⟨dx, vS, vT, vE, hp, hS, hT, hE⟩ := hm.ex
    refine ⟨_, pss_cons (ps_asg (pe_meth (pv 0) TM.cl cRw.m cRw.G hr36 cRw.b .nil pass0 (pa_cons (pv 1) pa_nil)) (pg_tup rfl (pgs_cons (pg_name (i := 2) scRow.nd rfl (.inl rfl)) (pgs_cons (pg_name (i := 3) scRow.nd rfl (.inl rfl)) pgs_nil))))
      (pss_one (ps_ret (pe_call cRt.G hr35 rfl cRt.m cRt.kp cRt.b .nil pass0 (pa_cons (pv 2) (pa_cons (pv 3) pa_nil))))), ?_⟩
    refine ⟨_, rfl, p, dx, _, rfl, hp, mf_no (by decide +kernel) (by decide +kernel) (by decide +kernel) (by decide +kernel) (by decide +kernel), _, rfl, N, p, ab, m, u, b, t, rfl, hm, al, hu, lu, sz, fun v z B H1 b1' hm1 hv av => ?_⟩
    have kp1 : Keep N H H1 := Keep.but b1' na hm1.there
    obtain ⟨r, rfl⟩ := hv.tupV
    obtain ⟨xs, hx, lx, ex⟩ := hv.tupE
    match xs, lx with
    | [w0, w1], _ =>
    have h0 := ex 0 w0 _ rfl rfl
    have h1 := (ex 1 w1 _ rfl rfl).intV
    subst h1
    obtain ⟨tq, rfl⟩ := h0.lstV
    refine ⟨r, _, rfl, SqT.of hx, rfl, _, _, rfl, _, _, rfl, rfl, ?_⟩
    refine ⟨_, rfl, _, rfl, N, tq, m.n, z, B, rowN m u, rfl, h0, al.keep kp1, n1, av.b0, av.eq, fun r2 H2 s2 nr2 hr2 => ?_⟩
    exact k r2 H2 (b1'.trans (Same.but s2)) (kp1.free nr2) (hm1.same s2) hr2
theorem ok_col {f fC fA fS fW fT fH C CM : Addr} {fd dC dA dS dW dT dH : FuncData} (F : Fun K "column" "Machine.column" sCol f fd) (TM : TxtM K mg CM) (mrev : mg "reversed" = none) (cCw : CalN P w K mg base "check_word" 2 ["letters", "word"] spCw fC dC)
    (cRa : CalN P w K mg base "row_above" 34 ["row"] (spRa C) fA dA) (cSt : MetN P w K mg base CM "_step_above" 35 ["self", "letter"] (spSta C CM) fS dS) (cWc : CalN P w K mg base "whole_column_times" 2 ["column", "square"] (spLead C stC) fW dW)
    (cRth : CalN P w K mg base "row_through" 34 ["tops", "bottom", "steps", "lead"] (spRth C stC fW) fH dH) (cRt : CalN P w K mg base "ratios" 35 ["tops", "bottom"] (spRts C) fT dT) : FnOk P w K mg base CX0 36 f fd ["self", "word"] (spCol C CM) := by
  refine F.ok scCol (fun vs H Q E h => ?_) (fun cdv A outer s H vs Q E hr h => ?_)
  · obtain ⟨N, p, ab, m, u, b, t, rfl, _⟩ := h
    rfl
  · obtain ⟨N, p, ab, m, u, b, t, rfl, hm, al, hu, lu, sz, k⟩ := h
    have hr2 : Room 2 _ := hr.mono (by decide)
    have hr34 : Room 34 _ := hr.mono (by decide)
    have hr35 : Room 35 _ := hr
    have k1 := hm.k1
    have k4 := hm.k4
    have n1 := hm.n1
    have na := hm.na
    have b1 := sz.b1
    have t1 := sz.t1
    have wl : (wd u).length = u.length := wd_len
    obtain ⟨dx, vS, vT, vE, hp, hS, hT, hE⟩ := hm.ex
    obtain ⟨qe, rfl⟩ := hE.tupV
    refine ⟨_, pss_cons (ps_expr (pe_call cCw.G hr2 rfl cCw.m cCw.kp cCw.b .nil pass0 (pa_cons (pe_fld (pv 0) rfl) (pa_cons (pv 1) pa_nil))))
      (pss_cons (ps_asg (pe_call cRa.G hr34 rfl cRa.m cRa.kp cRa.b .nil pass0 (pa_cons (pe_fld (pv 0) rfl) pa_nil)) (pg_tup rfl (pgs_cons (pg_name (i := 2) scCol.nd rfl (.inl rfl)) (pgs_cons (pg_name (i := 3) scCol.nd rfl (.inl rfl)) pgs_nil))))
      (pss_cons (ps_setLc (i := 4) (own := [("letter", 5)]) (g := gName 5) (tt := tYes) rfl scCol.nd rfl rfl (sw_true rfl rfl rfl (by decide +kernel)) (RS.pi_back (by rfl) mrev (pa_cons (pv 1) pa_nil)) (blkOk_by (N := ["self", "word", "tops", "bottom", "steps", "letter"]) (sc := (defScope sCol)) (by decide +kernel)) (fun _ _ _ _ _ => (pg_name (i := 5) scCol.nd rfl (.inl rfl))) (fun _ _ _ _ _ => pts_nil) (fun _ _ _ _ _ => (pe_meth (pv 0) TM.cl cSt.m cSt.G hr35 cSt.b .nil pass0 (pa_cons (pv 5) pa_nil))))
      (pss_cons (ps_asg (pe_call cRth.G hr34 rfl cRth.m cRth.kp cRth.b .nil pass0 (pa_cons (pv 2) (pa_cons (pv 3) (pa_cons (pv 4) (pa_cons (pe_glob (v := .ref _) (by rfl) cWc.m rfl) pa_nil))))) (pg_tup rfl (pgs_cons (pg_name (i := 2) scCol.nd rfl (.inl rfl)) (pgs_cons (pg_name (i := 3) scCol.nd rfl (.inl rfl)) pgs_nil))))
      (pss_one (ps_ret (pe_call cRt.G hr35 rfl cRt.m cRt.kp cRt.b .nil pass0 (pa_cons (pv 2) (pa_cons (pv 3) pa_nil)))))))), ?_⟩
    refine ⟨_, rfl, p, CM, dx, _, _, rfl, hp, TM.cl, TM.nL, mf_l, _, rfl, m.k, u, rfl, k1, k4, hu, ?_⟩
    refine ⟨_, rfl, p, CM, dx, _, _, rfl, hp, TM.cl, TM.nE, mf_e, N, qe, m.n, b, t, m.e, rfl, hE, al, n1, sz.sE, b1, by omega, fun r H1 s1 nr hr0 => ?_⟩
    obtain ⟨xs, hx, lx, ex⟩ := hr0.tupE
    match xs, lx with
    | [v0, v1], _ =>
    have h0 := ex 0 v0 _ rfl rfl
    have h1 := (ex 1 v1 _ rfl rfl).intV
    subst h1
    obtain ⟨q, rfl⟩ := h0.lstV
    refine ⟨r, _, rfl, SqT.of hx, rfl, _, _, rfl, _, _, rfl, rfl, ?_⟩
    have hm1 := hm.same s1
    have al1 := al.keep (Same.keep (N := N) s1)
    refine ⟨_, rfl, _, rfl, by rw [wl]; exact Nat.le_of_lt (small1000 (by omega)), fun D nD => ?_⟩
    have nND := al1.fresh nD
    have ne : ab ≠ D := fun e => nND (by rw [← e]; exact na)
    refine lc_it (walk_back (z := wd u)) (fun i G => Gath C CM N H1 D p ab m (rng i fun i => absD m (u.getD (u.length - 1 - i) 0)) G) (gath0 hm1 nD) (fun _ _ _ _ => trivial) ?_ ?_
    · rintro i x G1 G2 hi g ⟨rfl, c, hc, rfl⟩
      rw [wl] at hi hc
      have il : u.length - 1 - i < u.length := by omega
      rw [wd_at, List.getElem?_eq_getElem il] at hc
      obtain rfl := Option.some.inj hc
      have xk : u[u.length - 1 - i] < m.k := hu _ (List.getElem_mem il)
      have ed : u.getD (u.length - 1 - i) 0 = u[u.length - 1 - i] := by rw [List.getD_eq_getElem?_getD, List.getElem?_eq_getElem il]; rfl
      obtain ⟨dx2, vS2, vT2, vE2, hp2, _, _, _⟩ := g.m.ex
      refine ⟨rfl, _, rfl, p, dx2, _, rfl, hp2, mf_no (by decide +kernel) (by decide +kernel) (by decide +kernel) (by decide +kernel) (by decide +kernel), _, rfl, And1 N D, p, ab, m, u[u.length - 1 - i], b, t, rfl, g.m, g.b.alc al1, xk, sz.sT _ xk, b1, t1, fun v H4 b4 hm4 hv => ?_⟩
      obtain ⟨acc, h1, h2, h3⟩ := g.step nD na ne b4 hm4 hv
      refine ⟨acc, h1, by rw [h2, rng_len]; exact small1000 (by omega), ?_⟩
      rw [rng_succ, ed]
      exact h3
    · rintro G1 g
      rw [wl] at g
      have bG : But ab H1 G1 := Keep.toBut g.b.k
      have kG : Keep N H1 G1 := g.b.k.more fun b e => by rw [e]; exact na
      have mG : MachAt C CM N G1 p ab m := g.m.less (fun _ z => .inl z) na
      have bz : t + u.length * (t + m.n) ≤ 60000000 := by
        have : u.length * (t + m.n) ≤ 400 * (100000 + 1000) := Nat.mul_le_mul lu (by omega)
        omega
      have bb : b + u.length * b ≤ 60000000 := by
        have : u.length * b ≤ 400 * 12999 := Nat.mul_le_mul lu b1
        omega
      have lt : ∀ i, i < u.length → u.getD (u.length - 1 - i) 0 < m.k := fun i hi => by
        rw [List.getD_eq_getElem?_getD, List.getElem?_eq_getElem (show u.length - 1 - i < u.length by omega)]
        exact hu _ (List.getElem_mem _)
      have base0 : Abv m.n (colN m (u.drop (u.length - 0))) (topz m.e ((cb m.e m.n : Nat) : Int)) ((cb m.e m.n : Nat) : Int) b t := by
        rw [Nat.sub_zero, List.drop_length]
        exact abv_row sz.sE
      refine ⟨_, rfl, _, rfl, _, rfl, N, q, D, m.n, u.length, b, t, b, t, _, _, fun i => m.t (u.getD (u.length - 1 - i) 0), fun i => colN m (u.drop (u.length - i)), rfl, h0.keep kG, g.b.done nND, al1.keep kG, n1, bb, bz, by omega, by omega, base0, fun i hi => sz.sT _ (lt i hi), fun i hi z B b' t' av => ?_, fun v z B H5 s5 hv av => ?_⟩
      · have il : u.length - 1 - i < u.length := by omega
        have e : u.drop (u.length - (i + 1)) = u.getD (u.length - 1 - i) 0 :: u.drop (u.length - i) := by
          have e1 : u.length - (i + 1) = u.length - 1 - i := by omega
          have e2 : u.length - i = u.length - 1 - i + 1 := by omega
          rw [e1, e2, List.drop_eq_getElem_cons il, List.getD_eq_getElem?_getD, List.getElem?_eq_getElem il]
          rfl
        have er : colN m (u.drop (u.length - (i + 1))) = fun l => VM.dot (m.t (u.getD (u.length - 1 - i) 0) l) (colN m (u.drop (u.length - i))) m.n := by
          unfold colN
          rw [e]
          rfl
        show Abv m.n (colN m (u.drop (u.length - (i + 1)))) _ _ _ _
        rw [er]
        exact (abv_col av (sz.sT _ (lt i hi))).up (Nat.le_refl _) (by omega)
      · simp only [Nat.sub_self, List.drop_zero] at av
        obtain ⟨rv, rfl⟩ := hv.tupV
        obtain ⟨ys, hys, ly, ey⟩ := hv.tupE
        match ys, ly with
        | [w0, w1], _ =>
        have g0 := ey 0 w0 _ rfl rfl
        have g1 := (ey 1 w1 _ rfl rfl).intV
        subst g1
        obtain ⟨tq, rfl⟩ := g0.lstV
        have al5 := (al1.keep kG).keep (Same.keep (N := N) s5)
        refine ⟨rv, _, rfl, SqT.of hys, rfl, _, _, rfl, _, _, rfl, rfl, ?_⟩
        refine ⟨_, rfl, _, rfl, N, tq, m.n, z, B, colN m u, rfl, g0, al5, n1, av.b0, av.eq, fun r2 H6 s6 nr2 hr2 => ?_⟩
        have b6 : But ab H H6 := (((Same.but s1).trans bG).trans (Same.but s5)).trans (Same.but s6)
        refine k r2 H6 b6 ?_ (mG.same (s5.trans s6)) hr2
        have k5 : Keep N H1 _ := kG.trans (Same.keep s5)
        exact s1.free (k5.free nr2)
theorem tab_snoc {n : Nat} {t : Nat → Nat → Nat → Rat} {u : List Nat} {x a : Nat} : VN.tab n t (u ++ [x]) a = fun j => VM.dot (VN.tab n t u a) (fun i => t x i j) n := row_snoc
theorem ok_tab {f fC fG fS fW fT qG C CM : Addr} {fd dC dG dS dW dT : FuncData} (F : Fun K "table" "Machine.table" sTab f fd) (T : TxtL mg) (TP : TxtP mg) (TM : TxtM K mg CM) (cCw : CalN P w K mg base "check_word" 2 ["letters", "word"] spCw fC dC)
    (cSi : PropN P w K mg base CM "size" 1 (spSi C CM) qG fG dG) (cSt : MetN P w K mg base CM "_step_above" 35 ["self", "letter"] (spSta C CM) fS dS) (cWr : CalN P w K mg base "whole_row_times" 1 ["row", "square"] (spWr C) fW dW)
    (cRt : CalN P w K mg base "ratios" 35 ["tops", "bottom"] (spRts C) fT dT) : FnOk P w K mg base CX0 36 f fd ["self", "word"] (spTab C CM) := by
  refine F.ok scTab (fun vs H Q E h => ?_) (fun cdv A outer s H vs Q E hr h => ?_)
  · obtain ⟨N, p, ab, m, u, b, t, rfl, _⟩ := h
    rfl
  · obtain ⟨N, p, ab, m, u, b, t, rfl, hm, al, hu, lu, sz, k⟩ := h
    have hr1 : Room 1 _ := hr.mono (by decide)
    have hr2 : Room 2 _ := hr.mono (by decide)
    have hr35 : Room 35 _ := hr
    have k1 := hm.k1
    have k4 := hm.k4
    have n1 := hm.n1
    have na := hm.na
    have b1 := sz.b1
    have t1 := sz.t1
    have wl : (wd u).cps.size = u.length := wd_len
    obtain ⟨dx, vS, vT, vE, hp, hS, hT, hE⟩ := hm.ex
    refine ⟨_, pss_cons (ps_expr (pe_call cCw.G hr2 rfl cCw.m cCw.kp cCw.b .nil pass0 (pa_cons (pe_fld (pv 0) rfl) (pa_cons (pv 1) pa_nil))))
      (pss_cons (ps_set (i := 2) scTab.nd rfl (.inr rfl) (pe_callTy (T := "range") XC.cr_range1 (by rfl) T.range (by decide +kernel) (pa_cons (pe_prop (pv 0) TM.cl cSi.p cSi.G hr2 cSi.b .nil pass0 rfl) pa_nil)))
      (pss_cons (ps_asg (pe_tup (pa_cons (pe_lc (own := [("at", 8)]) (g := gName 8) (tt := tYes) rfl scTab.nd (XC.pi_rng (pv 2)) (blkOk_by (N := ["self", "word", "places", "lines", "bottom", "letter", "rows", "below", "at", "line", "place"]) (sc := (defScope sTab)) (by decide +kernel)) (fun _ _ _ _ _ => (pg_name (i := 8) scTab.nd rfl (.inr rfl))) (fun _ _ _ _ _ => pts_nil) (fun _ _ _ _ _ => (pe_lc (own := [("place", 10)]) (g := gName 10) (tt := tYes) rfl scTab.nd (XC.pi_rng (pv 2)) (blkOk_by (N := ["self", "word", "places", "lines", "bottom", "letter", "rows", "below", "at", "line", "place"]) (sc := outTab0) (by decide +kernel)) (fun _ _ _ _ _ => (pg_name (i := 10) scTab.nd rfl (.inl rfl))) (fun _ _ _ _ _ => pts_nil) (fun _ _ _ _ _ => (pe_callTy call_int1 (by rfl) T.int (by decide +kernel) (pa_cons (pe_cmpR op_eq (pv 8) (pv 10) (nomark _)) pa_nil)))))) (pa_cons pe_int pa_nil))) (pg_tup rfl (pgs_cons (pg_name (i := 3) scTab.nd rfl (.inl rfl)) (pgs_cons (pg_name (i := 4) scTab.nd rfl (.inr rfl)) pgs_nil))))
      (pss_cons (ps_for PassesOwn.never rfl (pi_str (pv 1)) (pg_name (i := 5) scTab.nd rfl (.inl rfl))
        (pss_cons (ps_asg (pe_meth (pv 0) TM.cl cSt.m cSt.G hr35 cSt.b .nil pass0 (pa_cons (pv 5) pa_nil)) (pg_tup rfl (pgs_cons (pg_name (i := 6) scTab.nd rfl (.inr rfl)) (pgs_cons (pg_name (i := 7) scTab.nd rfl (.inl rfl)) pgs_nil))))
        (pss_cons (ps_setLc (i := 3) (own := [("line", 9)]) (g := gName 9) (tt := tYes) rfl scTab.nd rfl rfl (sw_true rfl rfl rfl (by decide +kernel)) (pi_list (pv 3)) (blkOk_by (N := ["self", "word", "places", "lines", "bottom", "letter", "rows", "below", "at", "line", "place"]) (sc := (defScope sTab)) (by decide +kernel)) (fun _ _ _ _ _ => (pg_name (i := 9) scTab.nd rfl (.inl rfl))) (fun _ _ _ _ _ => pts_nil) (fun _ _ _ _ _ => (pe_call cWr.G hr1 rfl cWr.m cWr.kp cWr.b .nil pass0 (pa_cons (pv 9) (pa_cons (pv 6) pa_nil)))))
        (pss_one (ps_set (i := 4) scTab.nd rfl (.inr rfl) (pe_op RQ.op_mulH (pv 4) (pv 7)))))))
      (pss_one (ps_ret (pe_callTy (T := "tuple") call_tuple_of (by rfl) TP.tup (by decide +kernel) (pa_cons (pe_lc (own := [("line", 9)]) (g := gName 9) (tt := tYes) rfl scTab.nd (pi_list (pv 3)) (blkOk_by (N := ["self", "word", "places", "lines", "bottom", "letter", "rows", "below", "at", "line", "place"]) (sc := (defScope sTab)) (by decide +kernel)) (fun _ _ _ _ _ => (pg_name (i := 9) scTab.nd rfl (.inl rfl))) (fun _ _ _ _ _ => pts_nil) (fun _ _ _ _ _ => (pe_call cRt.G hr35 rfl cRt.m cRt.kp cRt.b .nil pass0 (pa_cons (pv 9) (pa_cons (pv 4) pa_nil))))) pa_nil))))))), ?_⟩
    refine ⟨_, rfl, p, CM, dx, _, _, rfl, hp, TM.cl, TM.nL, mf_l, _, rfl, m.k, u, rfl, k1, k4, hu, ?_⟩
    refine ⟨_, rfl, p, dx, _, rfl, hp, N, p, ab, m, rfl, hm, _, rfl, fun R nR => ?_⟩
    have s1 : Same H (upd H R (.rng 0 (m.n : Int))) := Same.upd nR
    have hR : (upd H R (.rng 0 (m.n : Int))) R = some (.rng 0 (m.n : Int)) := upd_same
    generalize upd H R (.rng 0 (m.n : Int)) = H1 at *
    have al1 := al.keep (Same.keep (N := N) s1)
    have nn : ((m.n : Int) - 0).toNat = m.n := by omega
    -- the unit table
    refine ⟨_, rfl, R, 0, (m.n : Int), rfl, hR, by omega, by omega, by omega, by omega, fun D nD => ?_⟩
    have nND := al1.fresh nD
    refine lc_it (walk_range (lo := 0) (n := ((m.n : Int) - 0).toNat)) (fun i G => Bld C Emp N H1 D (rng i fun a => intL m.n (fun j => if a = j then 1 else 0)) G) (bld0 nD) (fun _ _ _ _ => trivial) ?_ ?_
    · rintro i x G1 G2 hi bd ⟨rfl, rfl⟩
      rw [nn] at hi
      have hR1 := bd.k.same _ _ hR
      refine ⟨rfl, _, rfl, R, 0, (m.n : Int), rfl, hR1, by omega, by omega, by omega, by omega, fun D2 nD2 => ?_⟩
      refine lc_it (walk_range (lo := 0) (n := ((m.n : Int) - 0).toNat)) (fun j G => G D2 = some (.lst (iV j (fun j => if i = j then 1 else 0))) ∧ Same G2 G) ⟨upd_same, Same.upd nD2⟩ (fun _ _ _ _ => trivial) ?_ ?_
      · rintro j y G3 G4 hj ⟨hD2, s3⟩ ⟨rfl, rfl⟩
        rw [nn] at hj
        refine ⟨rfl, _, rfl, _, rfl, rfl, .inr ⟨_, rfl, _, hD2, ?_, ?_, fun c o hc => ?_⟩⟩
        · rw [iV_len]; exact small1000 (by omega)
        · rw [upd_same, iV_succ]
          congr 4
          by_cases e : i = j
          · subst e; rw [if_pos (decide_eq_true rfl), if_pos rfl]
          · rw [if_neg e, if_neg (fun z => e (by have := of_decide_eq_true z; injection this; omega))]
        · rw [upd_ne (ne_of_none hc nD2)]
          exact s3 _ _ hc
      · rintro G3 ⟨hD2, s3⟩
        rw [nn] at hD2
        obtain ⟨acc, h1, h2, h3⟩ := bd.step nD (Same.keep s3) (fun _ z => z.elim) id (at_ints hD2 ((bd.alc al1).fresh nD2))
        refine ⟨acc, h1, by rw [h2, rng_len]; exact small1000 (by omega), ?_⟩
        rw [rng_succ]
        exact h3
    rintro G1 bd
    rw [nn] at bd
    have hD := bd.done nND
    have sG := s1.trans bd.k.same
    have alG := al1.keep bd.k
    refine ⟨(by show 2 ≤ sizeLine; decide), fun tt ntt => ⟨tt, _, rfl, SqT.of upd_same, rfl, _, _, rfl, _, _, rfl, rfl, ?_⟩⟩
    have s2 := sG.trans (Same.upd (o := .tup [.ref D, .int 1]) ntt)
    have hD2 := hD.same (Same.upd (o := .tup [.ref D, .int 1]) ntt)
    generalize upd G1 tt (.tup [.ref D, .int 1]) = H2 at *
    refine ⟨_, rfl, _, rfl, for_it (walk_str (z := wd u)) (fun i σ H' => ∃ (q : Addr) (z : Nat → Nat → Int) (B : Int) (o5 o6 o7 : Option V), σ = [some (.ref p), some (.str (wd u)), some (.ref R), some (.ref q), some (.int B), o5, o6, o7, none, none, none] ∧ But ab H H' ∧ MachAt C CM N H' p ab m ∧ At C N H' (.ref q) (.lst (rng m.n fun a => intL m.n (z a))) ∧ Bt (b * i + 1) B ∧ ∀ a, a < m.n → Abv m.n (tabN m (u.take i) a) (z a) B (b * i + 1) (1 + i * (t + m.n)))
      ⟨D, fun a j => if a = j then 1 else 0, 1, none, none, none, rfl, Same.but s2, hm.same s2, hD2, by rw [Nat.mul_zero, Nat.zero_add]; show (1 : Int).natAbs < 2 ^ 1; decide, fun a ha => by rw [List.take_zero]; exact abv_unit.up (by omega) (by omega)⟩ (fun _ _ _ _ _ => trivial) ?_ ?_⟩
    · rintro i x σ H3 H4 hi ⟨q, z, B, o5, o6, o7, rfl, hb2, hm2, hq, hB, av⟩ ⟨rfl, c, hc, rfl⟩
      rw [wl] at hi
      rw [wd_at, List.getElem?_eq_getElem hi] at hc
      obtain rfl := Option.some.inj hc
      have xk : u[i] < m.k := hu _ (List.getElem_mem hi)
      have al2 : Alc N H4 := al.keep (Keep.but hb2 na hm2.there)
      have szx := sz.sT _ xk
      obtain ⟨dx2, vS2, vT2, vE2, hp2, _, _, _⟩ := hm2.ex
      refine ⟨_, rfl, p, dx2, _, rfl, hp2, mf_no (by decide +kernel) (by decide +kernel) (by decide +kernel) (by decide +kernel) (by decide +kernel), _, rfl, N, p, ab, m, u[i], b, t, rfl, hm2, al2, xk, szx, b1, t1, fun v H5 b4 hm4 hv => ?_⟩
      have k4' : Keep N H4 H5 := Keep.but b4 na hm4.there
      obtain ⟨rv, rfl⟩ := hv.tupV
      obtain ⟨xs, hx, lx, ex⟩ := hv.tupE
      match xs, lx with
      | [w0, w1], _ =>
      have h0 := ex 0 w0 _ rfl rfl
      have h1 := (ex 1 w1 _ rfl rfl).intV
      subst h1
      obtain ⟨sq, rfl⟩ := h0.lstV
      refine ⟨rv, _, rfl, SqT.of hx, rfl, _, _, rfl, _, _, rfl, rfl, ?_⟩
      have bz : 1 + i * (t + m.n) ≤ 60000000 := by
        have : i * (t + m.n) ≤ 400 * (100000 + 1000) := Nat.mul_le_mul (by omega) (by omega)
        omega
      have bb : b * i + 1 ≤ 60000000 := by
        have : b * i ≤ 12999 * 401 := Nat.mul_le_mul b1 (by omega)
        omega
      have hq4 := hq.keep k4'
      have al4 := al2.keep k4'
      obtain ⟨ys, hys, ly, ey⟩ := At.lstR hq4
      refine ⟨_, rfl, q, rfl, ⟨_, SqL.of hys⟩, fun D' nD' => ?_⟩
      have nND' := al4.fresh nD'
      refine lc_it (walk_list (K := K) (a := q) (xs := ys)) (fun a G => Bld C Emp N H5 D' (rng a fun a => intL m.n fun j => wsum (z a) (fun i' => topz (m.t u[i] i') ((cbt (m.t u[i]) m.n m.n : Nat) : Int) j) m.n) G) (bld0 nD') (fun i G _ b => SqL.of (b.k.same _ _ hys)) ?_ ?_
      · rintro a y G2 G3 ha bb1 ⟨rfl, hy⟩
        rw [ly] at ha
        obtain ⟨y', hy', hd'⟩ := ey a ha
        rw [hy'] at hy
        obtain rfl := Option.some.inj hy
        obtain ⟨qy, rfl⟩ := hd'.lstV
        have h00 : At C N H5 (.ref sq) (.lst (rng m.n fun i' => intL m.n (topz (m.t u[i] i') ((cbt (m.t u[i]) m.n m.n : Nat) : Int)))) := h0
        refine ⟨rfl, _, rfl, _, rfl, And1 N D', qy, sq, m.n, z a, fun i' => topz (m.t u[i] i') ((cbt (m.t u[i]) m.n m.n : Nat) : Int), rfl, bb1.old nD' (fun _ z => z.elim) hd', bb1.old nD' (fun _ z => z.elim) h00, bb1.alc al4, n1, fun l hl => Hg.bt ((av a ha).bt l hl) bz, fun l hl l2 hl2 => Hg.bt (szx.t l hl l2 hl2) (by omega), fun q' G4 s4 nq' hq' => ?_⟩
        obtain ⟨acc, h1, h2, h3⟩ := bb1.step nD' (Same.keep s4) (fun _ z => z.elim) id hq'
        refine ⟨acc, h1, by rw [h2, rng_len]; exact small1000 (by omega), ?_⟩
        rw [rng_succ]
        exact h3
      · rintro G2 bb1
        rw [ly] at bb1
        refine ⟨_, rfl, _, rfl, _, _, rfl, rfl, ⟨Hg.bt hB bb, Hg.bt szx.b (by omega)⟩, ?_⟩
        have e : u.take (i + 1) = u.take i ++ [u[i]] := by
          rw [List.take_add_one, List.getElem?_eq_getElem hi]
          rfl
        refine ⟨D', _, _, _, _, _, rfl, (hb2.trans b4).trans (Same.but bb1.k.same), hm4.same bb1.k.same, bb1.done nND', (hB.mul szx.b).up (by rw [Nat.mul_succ]; omega), fun a ha => ?_⟩
        have st := abv_step (av a ha) szx
        have er : tabN m (u.take (i + 1)) a = fun j => VM.dot (tabN m (u.take i) a) (fun l => m.t u[i] l j) m.n := by
          unfold tabN
          rw [e, tab_snoc]
        rw [er]
        exact st.up (by rw [Nat.mul_succ]; omega) (by rw [Nat.succ_mul i]; omega)
    · rintro σ H3 ⟨q, z, B, o5, o6, o7, rfl, hb2, hm2, hq, _, av⟩
      rw [wl, List.take_length] at av
      have k2 := Keep.but hb2 na hm2.there
      have al3 := al.keep k2
      obtain ⟨ys, hys, ly, ey⟩ := At.lstR hq
      refine ⟨_, rfl, q, rfl, ⟨_, SqL.of hys⟩, fun D' nD' => ?_⟩
      have nND' := al3.fresh nD'
      refine lc_it (walk_list (K := K) (a := q) (xs := ys)) (fun a G => Bld C Emp N H3 D' (rng a fun a => ratR m.n (tabN m u a)) G) (bld0 nD') (fun i G _ b => SqL.of (b.k.same _ _ hys)) ?_ ?_
      · rintro a y G2 G3 ha bb1 ⟨rfl, hy⟩
        rw [ly] at ha
        obtain ⟨y', hy', hd'⟩ := ey a ha
        rw [hy'] at hy
        obtain rfl := Option.some.inj hy
        obtain ⟨qy, rfl⟩ := hd'.lstV
        refine ⟨rfl, _, rfl, _, rfl, And1 N D', qy, m.n, z a, B, tabN m u a, rfl, bb1.old nD' (fun _ z => z.elim) hd', bb1.alc al3, n1, (av a ha).b0, (av a ha).eq, fun q' G4 s4 nq' hq' => ?_⟩
        obtain ⟨acc, h1, h2, h3⟩ := bb1.step nD' (Same.keep s4) (fun _ z => z.elim) id hq'
        refine ⟨acc, h1, by rw [h2, rng_len]; exact small1000 (by omega), ?_⟩
        rw [rng_succ]
        exact h3
      · rintro G2 bb1
        rw [ly] at bb1
        obtain ⟨zs, hzs, lz, ez⟩ := (bb1.done nND').lstE
        refine ⟨D', zs, rfl, .inl ⟨SqL.of hzs, fun r nr => ?_⟩⟩
        have sr := bb1.k.same.trans (Same.upd (o := .tup zs) nr)
        exact k r _ (hb2.trans (Same.but sr)) (k2.free (bb1.k.same.free nr)) (hm2.same sr) (At.newT (al3.keep bb1.k) nr lz ez)
end
end RX

set_option Elab.async false
set_option maxRecDepth 100000
set_option exponentiation.threshold 100000
namespace RX
open PySem L2 LX VA VM VN
open RQ (Hg Bt)
/-! ### is_corner -/
abbrev sIs : Stmt := topS 34
theorem scIs : FnScope ["machine", "rows", "columns", "heads", "tails", "space", "head", "word", "tail"] ["machine", "rows", "columns"] (defScope sIs) := ⟨rfl, rfl, rfl, by decide +kernel, rfl, by decide +kernel, by decide +kernel⟩
structure Sb (n h k : Nat) (a Z : Nat → Nat → Int) : Prop where
  vk : ∀ i, i < h → DT.Spn n k (DT.cv a) (DT.cv Z i)
  kv : ∀ t, t < k → DT.Spn n h (DT.cv Z) (DT.cv a t)
  cnt : k = h ↔ DT.Ind n h (DT.cv Z)
  le : k ≤ h
theorem sb0 {n : Nat} {a Z : Nat → Nat → Int} : Sb n 0 0 a Z := ⟨fun i hi => absurd hi (by omega), fun i hi => absurd hi (by omega), ⟨fun _ l hl => absurd hl (by omega), fun _ => rfl⟩, Nat.le_refl _⟩
theorem Sb.stay {n h k : Nat} {a Z : Nat → Nat → Int} (s : Sb n h k a Z) (sp : DT.Spn n k (DT.cv a) (DT.cv Z h)) : Sb n (h + 1) k a Z := by
  have le := s.le
  refine ⟨fun i hi => ?_, fun t ht => DT.spn_more (s.kv t ht), ⟨fun e => by omega, fun i => absurd (DT.spn_trans sp s.kv) (i h (by omega))⟩, by omega⟩
  by_cases e : i = h
  · rw [e]; exact sp
  · exact s.vk i (by omega)
theorem Sb.more {n h k : Nat} {a a' Z : Nat → Nat → Int} (s : Sb n h k a Z) (ns : ¬ DT.Spn n k (DT.cv a) (DT.cv Z h)) (e : ∀ t, t < k → ∀ x, x < n → a' t x = a t x) (ek : ∀ x, x < n → a' k x = Z h x) : Sb n (h + 1) (k + 1) a' Z := by
  have le := s.le
  have ea : ∀ t, t < k → ∀ x, x < n → DT.cv a t x = DT.cv a' t x := fun t ht x hx => by show (a t x : Rat) = (a' t x : Rat); rw [e t ht x hx]
  refine ⟨fun i hi => ?_, fun t ht => ?_, ⟨fun q l hl => ?_, fun i => ?_⟩, by omega⟩
  · by_cases ei : i = h
    · rw [ei]
      exact DT.spn_congr (DT.spn_in (a := DT.cv a') (i := k) (by omega)) fun x hx => by show (Z h x : Rat) = (a' k x : Rat); rw [ek x hx]
    · exact DT.spn_more (DT.spn_ext (s.vk i (by omega)) ea)
  · by_cases et : t = k
    · rw [et]
      exact DT.spn_congr (DT.spn_in (a := DT.cv Z) (i := h) (by omega)) fun x hx => by show (a' k x : Rat) = (Z h x : Rat); rw [ek x hx]
    · exact DT.spn_more (DT.spn_congr (s.kv t (by omega)) fun x hx => (ea t (by omega) x hx).symm)
  · by_cases el : l = h
    · rw [el]
      exact fun z => ns (DT.spn_trans z s.vk)
    · exact s.cnt.mp (by omega) l (by omega)
  · have := s.cnt.mpr fun l hl => i l (by omega)
    omega
/-- the table of is_corner -/
def corZ (m : Mc) (us ss : List (List Nat)) : Nat → Nat → Int := fun i j => wsum (hdI m (us.getD i [])) (tlI m (ss.getD j [])) m.n
theorem getD_mem {us : List (List Nat)} {i : Nat} (h : i < us.length) : us.getD i [] ∈ us := by
  rw [getD_of (List.getElem?_eq_getElem h)]
  exact List.getElem_mem h
theorem cor_alg {Z x y a c N : Rat} (h : Z * (x * y) = a * c * N) (i1 : x⁻¹ * x = 1) (i2 : y⁻¹ * y = 1) : Z = a * x⁻¹ * (c * y⁻¹) * N := by
  have : Z = Z * (x * y) * (x⁻¹ * y⁻¹) := by
    have : Z * (x * y) * (x⁻¹ * y⁻¹) = Z * ((x⁻¹ * x) * (y⁻¹ * y)) := by grind
    rw [this, i1, i2, Rat.mul_one, Rat.mul_one]
  rw [this, h]
  grind
theorem cor_ind {p : Pl} {m : Mc} {l : Nat} (pb : PlB p) (al : Alk p m l) (l4 : l ≤ 4) (n14 : m.n ≤ 14) {us ss : List (List Nat)} (mu : ∀ u ∈ us, Ltk p.k u) (ms : ∀ u ∈ ss, Ltk p.k u) :
    DT.Ind ss.length us.length (DT.cv (corZ m us ss)) ↔ IndW ss.length (tD p.n (rwI p p.s) (clI p) ss) us := by
  have ne : ∀ {a : Nat} {x : Int}, 0 < a → x ≠ 0 → ((a : Int) : Rat) * (x : Rat)⁻¹ ≠ 0 := fun {a x} a0 x0 => DT.rmul_ne (DT.ic (by omega)) fun z => by
    have := Rat.inv_mul_cancel _ (DT.ic x0)
    rw [z, Rat.zero_mul] at this
    exact absurd this (by decide)
  refine ind_scale2 (al := fun t => (((cb (rowN m (us.getD t [])) m.n : Nat) : Int) : Rat) * ((bR p (us.getD t []) : Int) : Rat)⁻¹) (be := fun x => (((cb (VN.col m.n m.t m.e (ss.getD x [])) m.n : Nat) : Int) : Rat) * ((bC p (ss.getD x []) : Int) : Rat)⁻¹)
    (fun t ht => ne cb_pos (bR_ne pb (mu _ (getD_mem ht)))) (fun x hx => ne cb_pos (bC_ne pb (ms _ (getD_mem hx)))) fun t ht x hx => ?_
  have hu := mu _ (getD_mem ht)
  have hs := ms _ (getD_mem hx)
  have e := congrArg (fun z : Int => (z : Rat)) (cor_eq pb al l4 n14 hu hs)
  have e : ((wsum (hdI m (us.getD t [])) (tlI m (ss.getD x [])) m.n : Int) : Rat) * (((bR p (us.getD t []) : Int) : Rat) * ((bC p (ss.getD x []) : Int) : Rat)) = (((cb (rowN m (us.getD t [])) m.n : Nat) : Int) : Rat) * (((cb (VN.col m.n m.t m.e (ss.getD x [])) m.n : Nat) : Int) : Rat) * ((wsum (rwI p p.s (us.getD t [])) (clI p (ss.getD x [])) p.n : Int) : Rat) := by
    rw [← Rat.intCast_mul, ← Rat.intCast_mul, ← Rat.intCast_mul, ← Rat.intCast_mul]
    exact e
  exact cor_alg e (Rat.inv_mul_cancel _ (DT.ic (bR_ne pb hu))) (Rat.inv_mul_cancel _ (DT.ic (bC_ne pb hs)))
def spIs (C CM : Addr) : Sp := fun vs H Q _ => ∃ (N : Addr → Prop) (pm ab : Addr) (m : Mc) (p : Pl) (l : Nat) (pr pc : Addr) (us ss : List (List Nat)), vs = [.ref pm, .ref pr, .ref pc] ∧ MachAt C CM N H pm ab m ∧ Alc N H ∧ PlB p ∧ Alk p m l ∧ l ≤ 4 ∧ m.n ≤ 14 ∧ H pr = some (.lst (wV us)) ∧ H pc = some (.lst (wV ss)) ∧ us.length ≤ 12 ∧ ss.length ≤ 12 ∧
  (∀ u ∈ us, u.length ≤ 11 ∧ Ltk p.k u) ∧ (∀ u ∈ ss, u.length ≤ 11 ∧ Ltk p.k u) ∧ pr ≠ ab ∧ pc ≠ ab ∧ ∀ H' : Hp, But ab H H' → MachAt C CM N H' pm ab m → Q (.bl (bP (us.length = ss.length ∧ IndW ss.length (tD p.n (rwI p p.s) (clI p) ss) us))) H'
section
variable {P : Program} {w : World} {K : PySem.W.Frag} {mg : Str → Option Value} {base : Heap}
theorem ok_is {f fA fR fC fI fT fW fO C CM CS : Addr} {fd dA dR dC dI dT dW dO : FuncData} (F : Fun K "is_corner" "is_corner" sIs f fd) (T : TxtL mg) (TM : TxtM K mg CM) (TS : TxtS K mg CS) (cRa : CalN P w K mg base "row_above" 34 ["row"] (spRa C) fA dA)
    (cRow : MetN P w K mg base CM "row" 37 ["self", "word"] (spRow C CM) fR dR) (cCol : MetN P w K mg base CM "column" 36 ["self", "word"] (spCol C CM) fC dC) (MSp : Mk K CS fI) (GSp : FnOk P w K mg base CX0 1 fI dI ["self"] (spSpI CS)) (bSp : Binds K dI ["self"] [])
    (cTk : MetN P w K mg base CS "take_in" 36 ["self", "row"] (spTk CS) fT dT) (cWp : CalN P w K mg base "whole_product" 1 ["one", "other"] (spWp C) fW dW) (cRows : MetN P w K mg base CS "rows" 1 ["self"] (spRows CS) fO dO) :
    FnOk P w K mg base CX0 38 f fd ["machine", "rows", "columns"] (spIs C CM) := by
  refine F.ok scIs (fun vs H Q E h => ?_) (fun cdv A outer s H vs Q E hr h => ?_)
  · obtain ⟨N, pm, ab, m, p, l, pr, pc, us, ss, rfl, _⟩ := h
    rfl
  · obtain ⟨N, pm, ab, m, p, l, pr, pc, us, ss, rfl, hm, al0, pb, al, l4, n14, hpr, hpc, lu, ls, mu, ms, prA, pcA, kk⟩ := h
    have hr37 : Room 37 _ := hr
    have hr36 : Room 36 _ := hr.mono (by decide)
    have hr34 : Room 34 _ := hr.mono (by decide)
    have hr2 : Room 2 _ := hr.mono (by decide)
    have hr1 : Room 1 _ := hr.mono (by decide)
    have na := hm.na
    have n1 := hm.n1
    have msz := szm_msz al.z (by rw [al.k]; exact pb.b) l4
    have hmu : ∀ u ∈ us, Ltk p.k u := fun u hu => (mu u hu).2
    have hms : ∀ u ∈ ss, Ltk p.k u := fun u hu => (ms u hu).2
    refine ⟨_, pss_cons (ps_if (pt_cmpR op_ne (pe_callB call_len_seq (by rfl) T.len PySem.boot_len (pa_cons (pv 1) pa_nil)) (pe_callB call_len_seq (by rfl) T.len PySem.boot_len (pa_cons (pv 2) pa_nil)) (nomark _))
        (pss_one (ps_ret pe_bl))
        pss_nil)
      (pss_cons (ps_setLc (i := 3) (own := [("word", 7)]) (g := gName 7) (tt := tYes) rfl scIs.nd rfl rfl (sw_true rfl rfl rfl (by decide +kernel)) (pi_list (pv 1)) (blkOk_by (N := ["machine", "rows", "columns", "heads", "tails", "space", "head", "word", "tail"]) (sc := (defScope sIs)) (by decide +kernel)) (fun _ _ _ _ _ => (pg_name (i := 7) scIs.nd rfl (.inl rfl))) (fun _ _ _ _ _ => pts_nil) (fun _ _ _ _ _ => (pe_ix (show IxR _ (rIxT K) from ix_tup) (pe_call cRa.G hr34 rfl cRa.m cRa.kp cRa.b .nil pass0 (pa_cons (pe_meth (pv 0) TM.cl cRow.m cRow.G hr37 cRow.b .nil pass0 (pa_cons (pv 7) pa_nil)) pa_nil)) pe_int (fun _ _ => rfl))))
      (pss_cons (ps_setLc (i := 4) (own := [("word", 7)]) (g := gName 7) (tt := tYes) rfl scIs.nd rfl rfl (sw_true rfl rfl rfl (by decide +kernel)) (pi_list (pv 2)) (blkOk_by (N := ["machine", "rows", "columns", "heads", "tails", "space", "head", "word", "tail"]) (sc := (defScope sIs)) (by decide +kernel)) (fun _ _ _ _ _ => (pg_name (i := 7) scIs.nd rfl (.inl rfl))) (fun _ _ _ _ _ => pts_nil) (fun _ _ _ _ _ => (pe_ix (show IxR _ (rIxT K) from ix_tup) (pe_call cRa.G hr34 rfl cRa.m cRa.kp cRa.b .nil pass0 (pa_cons (pe_meth (pv 0) TM.cl cCol.m cCol.G hr36 cCol.b .nil pass0 (pa_cons (pv 7) pa_nil)) pa_nil)) pe_int (fun _ _ => rfl))))
      (pss_cons (ps_set (i := 5) scIs.nd rfl (.inl rfl) (pe_make0 MSp GSp hr2 rfl TS.mgS bSp .nil pass0))
      (pss_cons (ps_for PassesOwn.never rfl (pi_list (pv 3)) (pg_name (i := 6) scIs.nd rfl (.inr rfl))
        (pss_one (ps_expr (pe_meth (pv 5) TS.cl cTk.m cTk.G hr36 cTk.b .nil pass0 (pa_cons (pe_lc (own := [("tail", 8)]) (g := gName 8) (tt := tYes) rfl scIs.nd (pi_list (pv 4)) (blkOk_by (N := ["machine", "rows", "columns", "heads", "tails", "space", "head", "word", "tail"]) (sc := (defScope sIs)) (by decide +kernel)) (fun _ _ _ _ _ => (pg_name (i := 8) scIs.nd rfl (.inl rfl))) (fun _ _ _ _ _ => pts_nil) (fun _ _ _ _ _ => (pe_call cWp.G hr1 rfl cWp.m cWp.kp cWp.b .nil pass0 (pa_cons (pv 6) (pa_cons (pv 8) pa_nil))))) pa_nil)))))
      (pss_one (ps_ret (pe_cmpR op_eq (pe_callB call_len_seq (by rfl) T.len PySem.boot_len (pa_cons (pe_meth0 (pv 5) TS.cl cRows.m cRows.G hr1 cRows.b .nil pass0) pa_nil)) (pe_callB call_len_seq (by rfl) T.len PySem.boot_len (pa_cons (pv 1) pa_nil)) (nomark _)))))))), ?_⟩
    refine ⟨_, rfl, pr, _, rfl, .inl (SqL.of hpr), _, rfl, pc, _, rfl, .inl (SqL.of hpc), rfl, _, rfl, ite2 (fun e => ?_) (fun e => ?_)⟩
    · have ne : us.length ≠ ss.length := fun h => by
        have e : (!decide (V.int ((wV us).length : Int) = V.int ((wV ss).length : Int))) = true := e
        rw [wV_len, wV_len, h] at e
        simp at e
      have := kk H (Same.but (Same.refl _)) hm
      rw [bP_false fun h => ne h.1] at this
      exact this
    have eq : us.length = ss.length := Classical.byContradiction fun ne => e (by
      show (!decide (V.int ((wV us).length : Int) = V.int ((wV ss).length : Int))) = true
      rw [wV_len, wV_len, decide_eq_false (fun h => ne (by injection h with h; omega))]
      rfl)
    -- the heads
    refine ⟨_, rfl, pr, rfl, ⟨_, SqL.of hpr⟩, fun D nD => ?_⟩
    have nND := al0.fresh nD
    have abD : ab ≠ D := fun e => nND (by rw [← e]; exact na)
    refine lc_it (walk_list (K := K) (a := pr) (xs := wV us)) (fun i G => Gath C CM N H D pm ab m (rng i fun i => intL m.n (hdI m (us.getD i []))) G) (gath0 hm nD) (fun i G _ g => SqL.of (g.b.k.k _ _ hpr prA)) ?_ ?_
    · rintro i x G1 G2 hi g ⟨rfl, hx⟩
      obtain ⟨u, hu, rfl⟩ := wV_at hx
      have um := List.mem_of_getElem? hu
      have gu := getD_of hu
      obtain ⟨dx2, vS2, vT2, vE2, hp2, _, _, _⟩ := g.m.ex
      have ag := g.b.alc al0
      refine ⟨rfl, _, rfl, pm, dx2, _, rfl, hp2, mf_no (by decide +kernel) (by decide +kernel) (by decide +kernel) (by decide +kernel) (by decide +kernel), _, rfl, And1 N D, pm, ab, m, u, 100, 132, rfl, g.m, ag, by rw [al.k]; exact hmu u um, by have := (mu u um).1; omega, msz, fun r H4 b4 nr4 hm4 hv => ?_⟩
      have ag4 : Alc (And1 N D) H4 := ag.keep (Keep.but (N := And1 N D) b4 (Or.inl na) hm4.there)
      refine ⟨And1 N D, r, m.n, 1200, 2000, rowN m u, rfl, hv, ag4, n1, hd_sz pb al l4 n14 (hmu u um) (mu u um).1, by decide, by decide, fun r2 H5 s5 nr2 h2 => ?_⟩
      obtain ⟨xs, hx, lx, ex⟩ := h2.tupE
      match xs, lx with
      | [w0, w1], _ =>
      have h0 := ex 0 w0 _ rfl rfl
      obtain ⟨acc, a1, a2, a3⟩ := g.step nD na abD (b4.trans (Same.but s5)) (hm4.same s5) h0
      refine ⟨r2, _, 0, _, rfl, rfl, SqT.of hx, rfl, acc, a1, by rw [a2, rng_len]; rw [wV_len] at hi; exact small1000 (by omega), ?_⟩
      rw [rng_succ, gu]
      exact a3
    rintro G g
    rw [wV_len] at g
    have hH := g.b.done nND
    have mG : MachAt C CM N G pm ab m := g.m.less (fun _ z => .inl z) na
    have kG : Keep N H G := g.b.k.more fun b e => by rw [e]; exact na
    have bG : But ab H G := Keep.toBut g.b.k
    have alG := al0.keep kG
    have hpc2 := bG _ _ hpc pcA
    have hpr2 := bG _ _ hpr prA
    -- the tails
    refine ⟨_, rfl, pc, rfl, ⟨_, SqL.of hpc2⟩, fun D2 nD2 => ?_⟩
    have nND2 := alG.fresh nD2
    have abD2 : ab ≠ D2 := fun e => nND2 (by rw [← e]; exact na)
    refine lc_it (walk_list (K := K) (a := pc) (xs := wV ss)) (fun i G' => Gath C CM N G D2 pm ab m (rng i fun i => intL m.n (tlI m (ss.getD i []))) G') (gath0 mG nD2) (fun i G' _ g => SqL.of (g.b.k.k _ _ hpc2 pcA)) ?_ ?_
    · rintro i x G1 G2 hi g ⟨rfl, hx⟩
      obtain ⟨u, hu, rfl⟩ := wV_at hx
      have um := List.mem_of_getElem? hu
      have gu := getD_of hu
      obtain ⟨dx2, vS2, vT2, vE2, hp2, _, _, _⟩ := g.m.ex
      have ag := g.b.alc alG
      refine ⟨rfl, _, rfl, pm, dx2, _, rfl, hp2, mf_no (by decide +kernel) (by decide +kernel) (by decide +kernel) (by decide +kernel) (by decide +kernel), _, rfl, And1 N D2, pm, ab, m, u, 100, 132, rfl, g.m, ag, by rw [al.k]; exact hms u um, by have := (ms u um).1; omega, msz, fun r H4 b4 nr4 hm4 hv => ?_⟩
      have ag4 : Alc (And1 N D2) H4 := ag.keep (Keep.but (N := And1 N D2) b4 (Or.inl na) hm4.there)
      refine ⟨And1 N D2, r, m.n, 1200, 2000, VN.col m.n m.t m.e u, rfl, hv, ag4, n1, tl_sz pb al l4 n14 (hms u um) (ms u um).1, by decide, by decide, fun r2 H5 s5 nr2 h2 => ?_⟩
      obtain ⟨xs, hx, lx, ex⟩ := h2.tupE
      match xs, lx with
      | [w0, w1], _ =>
      have h0 := ex 0 w0 _ rfl rfl
      obtain ⟨acc, a1, a2, a3⟩ := g.step nD2 na abD2 (b4.trans (Same.but s5)) (hm4.same s5) h0
      refine ⟨r2, _, 0, _, rfl, rfl, SqT.of hx, rfl, acc, a1, by rw [a2, rng_len]; rw [wV_len] at hi; exact small1000 (by omega), ?_⟩
      rw [rng_succ, gu]
      exact a3
    rintro G2 g2
    rw [wV_len] at g2
    have hT := g2.b.done nND2
    have mG2 : MachAt C CM N G2 pm ab m := g2.m.less (fun _ z => .inl z) na
    have kG2 : Keep N G G2 := g2.b.k.more fun b e => by rw [e]; exact na
    have bG2 : But ab H G2 := bG.trans (Keep.toBut g2.b.k)
    have hH := hH.keep kG2
    have hpr3 := bG2 _ _ hpr prA
    clear g g2 hpc2 hpr2
    obtain ⟨xs, hxs, lx, ex⟩ := At.lstR hH
    obtain ⟨ys, hys, ly, ey⟩ := At.lstR hT
    -- the space
    intro x dx nx ndx dxx
    have hx3 : (upd (upd G2 dx (.own x)) x (.ins CS dx [])) x = some (.ins CS dx []) := upd_same
    have s3 : Same G2 (upd (upd G2 dx (.own x)) x (.ins CS dx [])) := fun b o hb => by rw [upd_ne (ne_of_none hb nx), upd_ne (ne_of_none hb ndx)]; exact hb
    generalize upd (upd G2 dx (.own x)) x (.ins CS dx []) = G3 at *
    refine ⟨x, dx, rfl, hx3, fun G4 d b4 sp0 => ⟨rfl, ?_⟩⟩
    have s4 : Same G2 G4 := fun b o hb => b4 _ _ (s3 _ _ hb) (ne_of_none hb nx)
    clear b4 s3 hx3
    refine ⟨_, rfl, D, rfl, ⟨_, SqL.of (s4 _ _ hxs)⟩, for_it (walk_list (a := D) (xs := xs)) (fun i σ G => ∃ (o6 : Option V) (k : Nat) (d : Addr) (ps : Nat → Nat) (ra : Nat → Addr) (L a : Nat → Nat → Int), σ = [some (.ref pm), some (.ref pr), some (.ref pc), some (.ref D), some (.ref D2), some (.ref x), o6, none, none] ∧ Same G2 G ∧ SpcAt CS G x d ss.length k ps ra L ∧ DT.Bas ss.length k (2 ^ 1026) ps L a ∧ Sb ss.length i k a (corZ m us ss))
      ⟨_, 0, d, _, _, _, fun _ _ => 0, rfl, s4, sp0 _, DT.bas0 _ _ _ _ _, sb0⟩ (fun i _ G _ h => by obtain ⟨_, _, _, _, _, _, _, _, s, _⟩ := h; exact SqL.of (s _ _ hxs)) ?_ ?_⟩
    · rintro i v σ G5 G5 hi ⟨o6, k, d, ps, ra, L, a, rfl, s5, spc, bas, sb⟩ ⟨rfl, hx⟩
      rw [lx] at hi
      obtain ⟨v', hv', hat⟩ := ex i hi
      rw [hv'] at hx
      obtain rfl := Option.some.inj hx
      obtain ⟨ph, rfl⟩ := hat.lstV
      have hat := hat.same s5
      have hui := hmu _ (getD_mem hi)
      have lui := (mu _ (getD_mem hi)).1
      obtain ⟨dx', hp⟩ := spc.hp
      refine ⟨_, rfl, x, dx', _, rfl, hp, rfl, _, rfl, D2, rfl, ⟨_, SqL.of (s5 _ _ hys)⟩, fun E nE => ?_⟩
      refine lc_it (walk_list (K := K) (a := D2) (xs := ys)) (fun j G => G E = some (.lst (iV j (corZ m us ss i))) ∧ Same G5 G) ⟨upd_same, Same.upd nE⟩ (fun j G _ h => SqL.of (h.2 _ _ (s5 _ _ hys))) ?_ ?_
      · rintro j y G6 G7 hj ⟨hE, s6⟩ ⟨rfl, hy⟩
        rw [ly] at hj
        obtain ⟨v', hv', hyt⟩ := ey j hj
        rw [hv'] at hy
        obtain rfl := Option.some.inj hy
        obtain ⟨pt, rfl⟩ := hyt.lstV
        have hsj := hms _ (getD_mem hj)
        have lsj := (ms _ (getD_mem hj)).1
        refine ⟨rfl, _, rfl, _, rfl, N, ph, pt, m.n, _, _, rfl, hat.same s6, hyt.same (s5.trans s6), n1, fun q hq => ⟨((hd_sz pb al l4 n14 hui lui).t q hq).hg (by decide), ((tl_sz pb al l4 n14 hsj lsj).t q hq).hg (by decide)⟩, fun G8 s8 => ⟨_, s8 _ _ hE, ?_, ?_, fun b o hc => ?_⟩⟩
        · rw [iV_len]; exact small1000 (by omega)
        · rw [upd_same, iV_succ]
          rfl
        · rw [upd_ne (ne_of_none hc nE)]
          exact s8 _ _ (s6 _ _ hc)
      rintro G6 ⟨hE, s6⟩
      rw [ly] at hE
      have bd : ∀ q, q < ss.length → (corZ m us ss i q).natAbs ≤ 2 ^ 1026 := fun q hq => cor_bt pb al l4 n14 hui (hms _ (getD_mem hq)) lui (ms _ (getD_mem hq)).1
      refine ⟨x, d, E, ss.length, k, 1027, 2 ^ 1026, ps, ra, L, a, corZ m us ss i, corZ m us ss i, 1, rfl, spc.same s6, hE, by omega, bas, Nat.two_pow_pos _, big_ok ls, fun q hq => Nat.lt_of_le_of_lt (bd q hq) (Nat.pow_lt_pow_right (by decide) (by decide)), by decide, bd, by decide, fun q _ => by rw [Rat.one_mul], fun G7 s7 inb => ?_, fun G7 d' ps' ra' L' a' b7 spc' bas' e1 e2 ninb => ?_⟩
      · exact ⟨_, k, d, ps, ra, L, a, rfl, s5.trans (s6.trans s7), spc.same (s6.trans s7), bas, sb.stay (bas.mem.mpr inb)⟩
      · refine ⟨_, k + 1, d', ps', ra', L', a', rfl, fun b o hb => b7 _ _ ((s5.trans s6) _ _ hb) (ne_of_none hb nx), spc', bas', sb.more (fun z => ninb (bas.mem.mp z)) e1 e2⟩
    · rintro σ G5 ⟨o6, k, d, ps, ra, L, a, rfl, s5, spc, bas, sb⟩
      rw [lx] at sb
      have kl := bas.le
      obtain ⟨dx', hp⟩ := spc.hp
      refine ⟨_, rfl, x, dx', _, rfl, hp, rfl, x, d, ss.length, k, ps, ra, L, rfl, spc, by omega, fun i hi j hj e => bas.inj hi hj e, fun r σ G6 s6 nr6 hr6 _ _ => ?_⟩
      refine ⟨r, _, rfl, .inl (SqL.of hr6), _, rfl, pr, _, rfl, .inl (SqL.of ((s5.trans s6) _ _ hpr3)), rfl, ?_⟩
      have := kk G6 (bG2.trans (Same.but (s5.trans s6))) (mG2.same (s5.trans s6))
      show Q (.bl (decide (V.int ((((List.range k).map fun i => V.ref (ra (σ i))).length : Nat) : Int) = V.int ((wV us).length : Int)))) G6
      rw [wV_len, List.length_map, List.length_range]
      have e : decide (V.int (k : Int) = V.int (us.length : Int)) = bP (us.length = ss.length ∧ IndW ss.length (tD p.n (rwI p p.s) (clI p) ss) us) := by
        rw [bP_eq]
        exact bP_iff ⟨fun h => ⟨eq, (cor_ind pb al l4 n14 hmu hms).mp (sb.cnt.mp (by injection h with h; omega))⟩, fun h => by rw [sb.cnt.mpr ((cor_ind pb al l4 n14 hmu hms).mpr h.2)]⟩
      rw [e]
      exact this
end
end RX

set_option Elab.async false
set_option maxRecDepth 100000
namespace RX
open PySem L2 LX VA VM VN
open RQ (Hg Bt)
/-! ### what is_corner answers, and that the lists stay -/
abbrev sHolds : Stmt := topS 72
theorem scHo : FnScope ["machine", "rows", "columns", "due", "first", "second", "actual"] ["machine", "rows", "columns", "due"] (defScope sHolds) := ⟨rfl, rfl, rfl, by decide +kernel, rfl, by decide +kernel, by decide +kernel⟩
def rLstO (K : PySem.W.Frag) : List V → Hp → VK → Prop := fun xs H Q => ∃ p ys, xs = [.ref p] ∧ (SqL K H p ys ∨ SqT K H p ys) ∧ ∀ l : Addr, H l = none → Q (.ref l) (upd H l (.lst ys))
theorem call_listK {X : Cx} : CallR X (.type "list") (rLstO X.K) := call_list_of
def wP (us : List (List Nat)) : PyData := .list (us.map fun u => .str (wd u))
theorem wP_all {K : PySem.W.Frag} {H : Hp} : ∀ us : List (List Nat), DpAll K H (wV us) (us.map fun u => .str (wd u))
  | [] => .nil
  | u :: us => .cons (.str _) (wP_all us)
theorem dp_wV {K : PySem.W.Frag} {H : Hp} {r : Addr} {us : List (List Nat)} (h : H r = some (.lst (wV us))) : Dp K H (.ref r) (wP us) := .lst (SqL.of h) (wP_all us)
theorem wd_ok {k : Nat} {u : List Nat} (h : Ltk k u) (k4 : k ≤ 4) : PyData.strOk (wd u) = true := by
  unfold PyData.strOk
  rw [← Array.all_toList, wd_cps, List.all_eq_true]
  intro x hx
  obtain ⟨y, hy, rfl⟩ := List.mem_map.mp hx
  have := h y hy
  exact decide_eq_true (by show 97 + y < 0x110000; omega)
theorem wP_parts : ∀ us : List (List Nat), (∀ u ∈ us, PyData.strOk (wd u) = true) → PyData.canLayAll0 (us.map fun u => .str (wd u)) = true ∧ PyData.depthAll (us.map fun u => .str (wd u)) ≤ 1 ∧ PyData.eqvAll (us.map fun u => .str (wd u)) (us.map fun u => .str (wd u)) = true
  | [], _ => by simp [PyData.canLayAll0, PyData.depthAll, PyData.eqvAll]
  | v :: vs, h => by
    obtain ⟨h1, h2, h3⟩ := wP_parts vs fun v hv => h v (List.mem_cons_of_mem _ hv)
    have h0 := h v List.mem_cons_self
    refine ⟨by simp [PyData.canLayAll0, PyData.canLay0, h1, h0], ?_, by simp [PyData.eqvAll, PyData.eqv, h3]⟩
    simp only [List.map_cons, PyData.depthAll, PyData.depth]
    omega
theorem wP_ok {us : List (List Nat)} (h : ∀ v ∈ us, PyData.strOk (wd v) = true) : SeqAt.shaped (wP us) = true ∧ PyData.eqv (wP us) (wP us) = true := by
  obtain ⟨h1, h2, h3⟩ := wP_parts us h
  refine ⟨?_, ?_⟩
  · show ((wP us).canLay0 && decide ((wP us).depth ≤ 64)) = true
    rw [Bool.and_eq_true]
    refine ⟨?_, decide_eq_true ?_⟩
    · simp only [wP, PyData.canLay0]
      exact h1
    · simp only [wP, PyData.depth]
      omega
  · simp only [wP, PyData.eqv]
    exact h3
/-- what is_corner returns for these words -/
noncomputable def cor (p : Pl) (us ss : List (List Nat)) : Bool := bP (us.length = ss.length ∧ IndW ss.length (tD p.n (rwI p p.s) (clI p) ss) us)
/-- words of the law -/
structure Wds (p : Pl) (us : List (List Nat)) : Prop where
  l : us.length ≤ 12
  w : ∀ u ∈ us, u.length ≤ 11 ∧ Ltk p.k u
def spHo (C CM : Addr) : Sp := fun vs H Q _ => ∃ (N : Addr → Prop) (pm ab : Addr) (m : Mc) (p : Pl) (l : Nat) (pr pc : Addr) (us ss : List (List Nat)), vs = [.ref pm, .ref pr, .ref pc, .bl (cor p us ss)] ∧ MachAt C CM N H pm ab m ∧ Alc N H ∧ PlB p ∧ Alk p m l ∧ l ≤ 4 ∧ m.n ≤ 14 ∧ H pr = some (.lst (wV us)) ∧ H pc = some (.lst (wV ss)) ∧ Wds p us ∧ Wds p ss ∧
  pr ≠ ab ∧ pc ≠ ab ∧ ∀ H' : Hp, But ab H H' → MachAt C CM N H' pm ab m → Q (.bl true) H'
section
variable {P : Program} {w : World} {K : PySem.W.Frag} {mg : Str → Option Value} {base : Heap}
theorem ok_ho {f fI C CM : Addr} {fd dI : FuncData} (F : Fun K "_law_holds" "_law_holds" sHolds f fd) (T : TxtL mg) (TP : TxtP mg) (cIs : CalN P w K mg base "is_corner" 38 ["machine", "rows", "columns"] (spIs C CM) fI dI) : FnOk P w K mg base CX0 39 f fd ["machine", "rows", "columns", "due"] (spHo C CM) := by
  refine F.ok scHo (fun vs H Q E h => ?_) (fun cdv A outer s H vs Q E hr h => ?_)
  · obtain ⟨N, pm, ab, m, p, l, pr, pc, us, ss, rfl, _⟩ := h
    rfl
  · obtain ⟨N, pm, ab, m, p, l, pr, pc, us, ss, rfl, hm, al0, pb, al, l4, n14, hpr, hpc, wu, ws, prA, pcA, kk⟩ := h
    have hr38 : Room 38 _ := hr
    have k4 := pb.k4
    have abh := hm.there
    obtain ⟨u1, u2⟩ := wP_ok fun v hv => wd_ok (wu.w v hv).2 k4
    obtain ⟨v1, v2⟩ := wP_ok fun v hv => wd_ok (ws.w v hv).2 k4
    refine ⟨_, pss_cons (ps_set (i := 4) scHo.nd rfl (.inl rfl) (pe_callTy (T := "list") (show CallR _ (.type "list") (rLstO K) from call_listK) (by rfl) TP.list (by decide +kernel) (pa_cons (pv 1) pa_nil)))
      (pss_cons (ps_set (i := 5) scHo.nd rfl (.inl rfl) (pe_callTy (T := "list") (show CallR _ (.type "list") (rLstO K) from call_listK) (by rfl) TP.list (by decide +kernel) (pa_cons (pv 2) pa_nil)))
      (pss_cons (ps_set (i := 6) scHo.nd rfl (.inl rfl) (pe_call cIs.G hr38 rfl cIs.m cIs.kp cIs.b .nil pass0 (pa_cons (pv 0) (pa_cons (pv 4) (pa_cons (pv 5) pa_nil)))))
      (pss_one (ps_ret (pe_and (pe_callB call_isi (by rfl) T.isi (by decide +kernel) (pa_cons (pv 6) (pa_cons (pe_bltn (v := .ty "bool") (by rfl) T.bool (by decide +kernel) rfl) pa_nil))) (pe_and (pe_cmpR op_eq (pv 6) (pv 3) (nomark _)) (pe_and (pe_cmpR (op_eqD hr.units) (pv 4) (pv 1) (nomark _)) (pe_one (pe_cmpR (op_eqD hr.units) (pv 5) (pv 2) (nomark _)))))))))), ?_⟩
    refine ⟨_, rfl, pr, _, rfl, .inl (SqL.of hpr), fun l1 nl1 => ?_⟩
    have s1 : Same H (upd H l1 (.lst (wV us))) := Same.upd nl1
    have h1 : (upd H l1 (.lst (wV us))) l1 = some (.lst (wV us)) := upd_same
    have l1A : l1 ≠ ab := fun e => abh (by rw [← e]; exact nl1)
    generalize upd H l1 (.lst (wV us)) = H1 at *
    refine ⟨_, rfl, pc, _, rfl, .inl (SqL.of (s1 _ _ hpc)), fun l2 nl2 => ?_⟩
    have s2 : Same H1 (upd H1 l2 (.lst (wV ss))) := Same.upd nl2
    have h2 : (upd H1 l2 (.lst (wV ss))) l2 = some (.lst (wV ss)) := upd_same
    have l2A : l2 ≠ ab := fun e => abh (s1.free (by rw [← e]; exact nl2))
    generalize upd H1 l2 (.lst (wV ss)) = H2 at *
    have s12 := s1.trans s2
    refine ⟨_, rfl, _, rfl, _, rfl, N, pm, ab, m, p, l, l1, l2, us, ss, rfl, hm.same s12, al0.keep (Same.keep (N := N) s12), pb, al, l4, n14, s2 _ _ h1, h2, wu.l, ws.l, wu.w, ws.w, l1A, l2A, fun H3 b3 m3 => ?_⟩
    have g1 := b3 _ _ (s2 _ _ h1) l1A
    have g2 := b3 _ _ h2 l2A
    have g3 := b3 _ _ (s12 _ _ hpr) prA
    have g4 := b3 _ _ (s12 _ _ hpc) pcA
    refine ⟨_, rfl, _, _, _, _, true, rfl, .ty _, .base (.bl _), kit_ty (by decide +kernel), true, rfl, iteT ?_⟩
    refine ⟨_, rfl, _, rfl, rfl, _, rfl, ?_⟩
    rw [if_pos (by exact decide_eq_true rfl)]
    refine ⟨_, rfl, _, rfl, wP us, wP us, dp_wV g1, dp_wV g3, u1, u1, _, rfl, ?_⟩
    rw [if_pos u2]
    refine ⟨_, rfl, _, rfl, wP ss, wP ss, dp_wV g2, dp_wV g4, v1, v1, ?_⟩
    rw [v2]
    exact kk H3 ((Same.but s12).trans b3) m3
end
end RX

set_option Elab.async false
set_option maxRecDepth 100000
namespace RX
open PySem L2 LX VA VM VN
open RQ (Hg Bt)
/-! ### the lists of words while the law is under way -/
structure Ld (C : Addr) (p : Pl) (G : Hp) (a cl pq pr pc : Addr) (us ss : List (List Nat)) : Prop where
  fe : FeedAt G a cl
  pl : ∃ N, At C N G (.ref pq) (plD p) ∧ Alc N G ∧ N a ∧ N pr ∧ N pc
  hr : G pr = some (.lst (wV us))
  hc : G pc = some (.lst (wV ss))
  ra : pr ≠ a ∧ pr ≠ cl
  ca : pc ≠ a ∧ pc ≠ cl
  rc : pr ≠ pc
section
variable {C : Addr} {p : Pl} {G G' : Hp} {a cl pq pr pc r : Addr} {us ss us' : List (List Nat)}
theorem Ld.draw (h : Ld C p G a cl pq pr pc us ss) (b : But a G G') (fe : FeedAt G' a cl) : Ld C p G' a cl pq pr pc us ss := by
  obtain ⟨N, h1, h2, h3, h4, h5⟩ := h.pl
  have k : Keep N G G' := Keep.but b h3 fe.there
  exact ⟨fe, ⟨N, h1.keep k, h2.keep k, h3, h4, h5⟩, b _ _ h.hr h.ra.1, b _ _ h.hc h.ca.1, h.ra, h.ca, h.rc⟩
theorem Ld.same (h : Ld C p G a cl pq pr pc us ss) (s : Same G G') : Ld C p G' a cl pq pr pc us ss := h.draw (Same.but s) (h.fe.same s)
theorem Ld.new1 (h : Ld C p G a cl pq pr pc us ss) (b : But a G G') (fe : FeedAt G' a cl) (nr : G r = none) (hr : G' r = some (.lst (wV us'))) : Ld C p G' a cl pq r pc us' ss := by
  obtain ⟨N, h1, h2, h3, h4, h5⟩ := h.pl
  have k : Keep (And1 N r) G G' := Keep.but b (Or.inl h3) fe.there
  have k2 : Keep N G G' := Keep.but b h3 fe.there
  refine ⟨fe, ⟨And1 N r, (h1.and nr).keep k, (h2.keep k2).and (by rw [hr]; intro z; cases z), .inl h3, .inr rfl, .inl h5⟩, hr, b _ _ h.hc h.ca.1, h.fe.ne_new nr, h.ca, fun e => ?_⟩
  rw [e, h.hc] at nr
  cases nr
theorem Ld.new2 (h : Ld C p G a cl pq pr pc us ss) (b : But a G G') (fe : FeedAt G' a cl) (nr : G r = none) (hr : G' r = some (.lst (wV us'))) : Ld C p G' a cl pq pr r us us' := by
  obtain ⟨N, h1, h2, h3, h4, h5⟩ := h.pl
  have k : Keep (And1 N r) G G' := Keep.but b (Or.inl h3) fe.there
  have k2 : Keep N G G' := Keep.but b h3 fe.there
  refine ⟨fe, ⟨And1 N r, (h1.and nr).keep k, (h2.keep k2).and (by rw [hr]; intro z; cases z), .inl h3, .inl h4, .inr rfl⟩, b _ _ h.hr h.ra.1, hr, h.ra, h.fe.ne_new nr, fun e => ?_⟩
  rw [← e, h.hr] at nr
  cases nr
theorem Ld.set1 (h : Ld C p G a cl pq pr pc us ss) : Ld C p (upd G pr (.lst (wV us'))) a cl pq pr pc us' ss := by
  obtain ⟨N, h1, h2, h3, h4, h5⟩ := h.pl
  have k : Keep N G (upd G pr (.lst (wV us'))) := Keep.upd h4
  exact ⟨h.fe.other h.ra.1 h.ra.2, ⟨N, h1.keep k, h2.keep k, h3, h4, h5⟩, upd_same, by rw [upd_ne h.rc.symm]; exact h.hc, h.ra, h.ca, h.rc⟩
theorem Ld.set2 (h : Ld C p G a cl pq pr pc us ss) : Ld C p (upd G pc (.lst (wV us'))) a cl pq pr pc us us' := by
  obtain ⟨N, h1, h2, h3, h4, h5⟩ := h.pl
  have k : Keep N G (upd G pc (.lst (wV us'))) := Keep.upd h5
  exact ⟨h.fe.other h.ca.1 h.ca.2, ⟨N, h1.keep k, h2.keep k, h3, h4, h5⟩, by rw [upd_ne h.rc]; exact h.hr, upd_same, h.ra, h.ca, h.rc⟩
theorem Ld.at (h : Ld C p G a cl pq pr pc us ss) : At C Emp G (.ref pq) (plD p) := let ⟨_, h1, _⟩ := h.pl; h1.less fun _ z => z.elim
end
/-- words of at most this many -/
structure WB (p : Pl) (B : Nat) (us : List (List Nat)) : Prop where
  l : us.length ≤ B
  w : ∀ u ∈ us, u.length ≤ 11 ∧ Ltk p.k u
theorem WB.up {p : Pl} {A B : Nat} {us : List (List Nat)} (h : WB p A us) (l : A ≤ B) : WB p B us := ⟨Nat.le_trans h.l l, h.w⟩
def cutW (us : List (List Nat)) (lo hi : Option Int) : List (List Nat) := (us.drop (HT.sIx us.length 0 lo)).take (HT.sIx us.length us.length hi - HT.sIx us.length 0 lo)
theorem cutV_wV {us : List (List Nat)} {lo hi : Option Int} : cutV (wV us) lo hi = wV (cutW us lo hi) := by
  unfold cutV cutW
  rw [wV_len]
  unfold wV
  rw [List.map_take, List.map_drop]
theorem WB.cut {p : Pl} {B : Nat} {us : List (List Nat)} (h : WB p B us) (lo hi : Option Int) : WB p B (cutW us lo hi) := by
  refine ⟨?_, fun u hu => h.w u (List.mem_of_mem_drop (List.mem_of_mem_take hu))⟩
  have := h.l
  unfold cutW
  rw [List.length_take, List.length_drop]
  omega
theorem WB.app {p : Pl} {A B : Nat} {us ss : List (List Nat)} (h : WB p A us) (g : WB p B ss) : WB p (A + B) (us ++ ss) := ⟨by rw [List.length_append]; have := h.l; have := g.l; omega, fun u hu => (List.mem_append.mp hu).elim (h.w u) (g.w u)⟩
theorem WB.one {p : Pl} {u : List Nat} (h : u.length ≤ 6) (k : Ltk p.k u) : WB p 1 [u] := ⟨Nat.le_refl _, fun v hv => by rw [List.mem_singleton.mp hv]; exact ⟨by omega, k⟩⟩
theorem WB.set {p : Pl} {B i : Nat} {us : List (List Nat)} {u : List Nat} (h : WB p B us) (hu : u.length ≤ 6) (k : Ltk p.k u) : WB p B (us.set i u) := ⟨by rw [List.length_set]; exact h.l, fun v hv => (List.mem_or_eq_of_mem_set hv).elim (h.w v) fun e => by rw [e]; exact ⟨by omega, k⟩⟩
theorem WB.rev {p : Pl} {B : Nat} {us : List (List Nat)} (h : WB p B us) : WB p B us.reverse := ⟨by rw [List.length_reverse]; exact h.l, fun u hu => h.w u (List.mem_reverse.mp hu)⟩
theorem wV_app {us ss : List (List Nat)} : wV us ++ wV ss = wV (us ++ ss) := by unfold wV; rw [List.map_append]
theorem wV_rev {us : List (List Nat)} : (wV us).reverse = wV us.reverse := by unfold wV; rw [List.map_reverse]
theorem wV_set {us : List (List Nat)} {i : Nat} {u : List Nat} : (wV us).set i (.str (wd u)) = wV (us.set i u) := by unfold wV; rw [List.map_set]
theorem cutW_take {us : List (List Nat)} {k : Nat} : cutW us none (some (k : Int)) = us.take k := by
  have h0 : HT.sIx us.length 0 none = 0 := rfl
  have h1 := clipS_eq us.length us.length (some (k : Int))
  have h2 : clipS us.length us.length (some (k : Int)) = ((min k us.length : Nat) : Int) := by
    unfold clipS
    show max 0 (min (if (k : Int) < 0 then _ else (k : Int)) (us.length : Int)) = _
    rw [if_neg (by omega)]
    omega
  rw [h2] at h1
  have h3 : HT.sIx us.length us.length (some (k : Int)) = min k us.length := by omega
  unfold cutW
  rw [h0, h3, List.drop_zero, Nat.sub_zero]
  rcases Nat.le_total k us.length with l | l
  · rw [Nat.min_eq_left l]
  · rw [Nat.min_eq_right l, List.take_length, List.take_of_length_le l]
/-! the same word twice -/
theorem cor_nil {p : Pl} : cor p [] [] = true := bP_true ⟨rfl, fun l hl => absurd hl (by show ¬ l < 0; omega)⟩
theorem cor_twice {p : Pl} {us ss : List (List Nat)} : cor p (us.take 11 ++ us.take 1) (ss.take 11 ++ ss.take 1) = (decide (us.length = 0) && decide (ss.length = 0)) := by
  match us with
  | [] =>
    match ss with
    | [] => exact cor_nil
    | s :: ss =>
      refine bP_false fun h => ?_
      have h := h.1
      rw [List.length_append, List.length_append, List.length_take, List.length_take, List.length_take, List.length_take, List.length_cons] at h
      simp at h
  | u :: us =>
    refine (bP_false fun h => ?_).trans (by simp)
    have i := h.2 ((u :: us).take 11).length (by rw [List.length_append, List.length_take, List.length_take, List.length_cons]; omega)
    refine i ?_
    have e : ∀ val : List Nat → Nat → Int, vw val ((u :: us).take 11 ++ (u :: us).take 1) ((u :: us).take 11).length = vw val ((u :: us).take 11 ++ (u :: us).take 1) 0 := fun val => by
      unfold vw
      rw [List.getD_eq_getElem?_getD, List.getD_eq_getElem?_getD, List.getElem?_append_right (Nat.le_refl _), Nat.sub_self]
      rfl
    have e2 := e (tD p.n (rwI p p.s) (clI p) (ss.take 11 ++ ss.take 1))
    have : DT.cv (vw (tD p.n (rwI p p.s) (clI p) (ss.take 11 ++ ss.take 1)) ((u :: us).take 11 ++ (u :: us).take 1)) ((u :: us).take 11).length = DT.cv (vw (tD p.n (rwI p p.s) (clI p) (ss.take 11 ++ ss.take 1)) ((u :: us).take 11 ++ (u :: us).take 1)) 0 := by
      unfold DT.cv
      rw [e2]
    rw [this]
    exact DT.spn_in (by rw [List.length_take, List.length_cons]; omega)
/-- no list of the tape's kind -/
theorem At.feed {C a cl : Addr} {N : Addr → Prop} {H : Hp} {v : V} {d : Dat} (h : At C N H v d) (f : FeedAt H a cl) : At C (And1 N a) H v d := by
  obtain ⟨cs, i, p, t, s, f⟩ := f
  have hA := f.hA
  induction h with
  | non => exact .non
  | bl b => exact .bl b
  | int i => exact .int i
  | str s => exact .str s
  | rat h n =>
    refine .rat h fun z => z.elim n fun y => ?_
    obtain ⟨dx, h⟩ := h
    rw [y, hA] at h
    cases h
  | tup h n l e ih =>
    refine .tup h (fun z => z.elim n fun y => ?_) l ih
    rw [y, hA] at h
    cases h
  | lst h n l e ih =>
    refine .lst h (fun z => z.elim n fun y => ?_) l ih
    rw [y, hA] at h
    cases h
  | sq h n l e ih =>
    refine .sq h (fun z => z.elim n fun y => ?_) l ih
    rw [y, hA] at h
    rcases h with h | h <;> cases h
end RX

set_option Elab.async false
set_option maxRecDepth 100000
set_option maxHeartbeats 4000000
namespace RX
open PySem L2 LX VA VM VN
open RQ (Hg Bt)
/-! ### the law -/
abbrev sLaw : Stmt := topS 73
theorem scLaw : FnScope ["script", "tape", "plain", "letters", "size", "rows", "columns", "many", "kind", "place", "due", "machine", "twice", "turn"] ["script"] (defScope sLaw) := ⟨rfl, rfl, rfl, by decide +kernel, rfl, by decide +kernel, by decide +kernel⟩
def spLaw (K : PySem.W.Frag) : Sp := fun vs H Q _ => ∃ (a : Addr) (ns : List Int), vs = [.ref a] ∧ SqL K H a (ns.map V.int) ∧ ns.length ≤ 63 ∧ ∀ H', Q (.bl true) H'
/-- under way: the lists of words, after some of the kinds -/
def SK (C : Addr) (p : Pl) (sc a cl pq : Addr) (kd : Int) (pl B : Nat) (σ : L2.St) (G : Hp) : Prop := ∃ (pr pc : Addr) (us ss : List (List Nat)) (many : Nat), σ = [some (.ref sc), some (.ref a), some (.ref pq), some (.int (p.k : Int)), some (.int (p.n : Int)), some (.ref pr), some (.ref pc), some (.int (many : Int)), some (.int kd), some (.int (pl : Int)), none, none, none, none] ∧
  Ld C p G a cl pq pr pc us ss ∧ WB p B us ∧ WB p B ss ∧ (kd = 3 → many ≤ us.length) ∧ (kd = 8 → many ≤ ss.length)
theorem SK.up {C : Addr} {p : Pl} {sc a cl pq : Addr} {kd : Int} {pl A B : Nat} {σ : L2.St} {G : Hp} (h : SK C p sc a cl pq kd pl A σ G) (l : A ≤ B) : SK C p sc a cl pq kd pl B σ G := by
  obtain ⟨pr, pc, us, ss, many, e, ld, wu, ws, h3, h8⟩ := h
  exact ⟨pr, pc, us, ss, many, e, ld, wu.up l, ws.up l, h3, h8⟩
theorem kd_of {kd c : Int} (h : decide (V.int kd = V.int c) = true) : kd = c := by
  have := of_decide_eq_true h
  injection this
theorem ixN_nat {n i : Nat} (h : i < n) : ixN n (i : Int) = some i := by
  unfold ixN
  rw [if_pos (by omega), if_pos (by omega), Int.toNat_natCast]
theorem dec0 {n : Nat} : decide (V.int (n : Int) = V.int 0) = decide (n = 0) := decide_eq_decide.mpr ⟨fun h => by injection h with h; omega, fun h => by rw [h]; rfl⟩
theorem noPart {σ : L2.St} {H : Hp} {Q : Option Int → Hp → Prop} (h : Q none H) : tNoPart σ H Q := h
theorem slR {K : PySem.W.Frag} {H : Hp} {Q : VK} {x : Addr} {us : List (List Nat)} {lo hi : Option Int} (h : H x = some (.lst (wV us))) (k : ∀ q G, H q = none → Same H G → G q = some (.lst (wV (cutW us lo hi))) → Q (.ref q) G) : rSlL K (.ref x) lo hi H Q :=
  ⟨x, _, rfl, SqL.of h, fun q n => k q _ n (Same.upd n) (by rw [upd_same, cutV_wV])⟩
theorem catR {H : Hp} {Q : VK} {x y : Addr} {us ss : List (List Nat)} (h1 : H x = some (.lst (wV us))) (h2 : H y = some (.lst (wV ss))) (l : us.length + ss.length ≤ 1000) (k : ∀ q G, H q = none → Same H G → G q = some (.lst (wV (us ++ ss))) → Q (.ref q) G) : rCat (.ref x) (.ref y) H Q :=
  ⟨x, y, _, _, rfl, rfl, h1, h2, by rw [wV_len, wV_len]; exact Nat.le_of_lt (small1000 l), fun q n => k q _ n (Same.upd n) (by rw [upd_same, wV_app])⟩
theorem b01 (b : Bool) : Hg (if b = true then 1 else 0) := by
  cases b
  · exact (show Bt 1 (0 : Int) from by show (0 : Int).natAbs < 2 ^ 1; decide).hg (by decide)
  · exact (show Bt 1 (1 : Int) from by show (1 : Int).natAbs < 2 ^ 1; decide).hg (by decide)
theorem many_of {y z : Int} {b : Bool} (y0 : 0 ≤ y) (y1 : y < 6) (z0 : 0 ≤ z) (z1 : z < 2) : ∃ m : Nat, y + 7 * (if b = true then 1 else 0) * z = (m : Int) ∧ m ≤ 12 := by
  cases b
  · refine ⟨y.toNat, ?_, by omega⟩
    show y + 7 * 0 * z = _
    omega
  · refine ⟨(y + 7 * z).toNat, ?_, by omega⟩
    show y + 7 * 1 * z = _
    omega
section
variable {P : Program} {w : World} {K : PySem.W.Frag} {mg : Str → Option Value} {base : Heap}
theorem ok_law {f fTp fPn fNx fRw fCw fWo fDu fAk fMa fHo fPt C CM : Addr} {fd dTp dPn dNx dRw dCw dWo dDu dAk dMa dHo dPt : FuncData} (F : Fun K "law" "law" sLaw f fd) (T : TxtL mg)
    (cTp : CalN P w K mg base "_law_tape" 1 ["script"] (spFeed K) fTp dTp) (cPn : CalN P w K mg base "_law_plain" 4 ["tape", "wide", "limits"] spPn fPn dPn) (cRwd : CalN P w K mg base "_law_row_words" 34 ["plain"] (spRwd C) fRw dRw) (cCwd : CalN P w K mg base "_law_column_words" 34 ["plain"] (spCwd C) fCw dCw)
    (cNx : CalN P w K mg base "_law_next" 1 ["tape", "limit"] spDraw fNx dNx) (cWo : CalN P w K mg base "_law_word" 2 ["tape", "letters", "most"] spWo fWo dWo) (cDu : CalN P w K mg base "_law_due" 34 ["plain", "rows", "columns"] (spDu C) fDu dDu) (cAlk : CalN P w K mg base "_law_alike" 37 ["tape", "plain", "most"] (spAlk C) fAk dAk)
    (cMa : CalN P w K mg base "_law_machine" 36 ["parts"] (spMaM C CM) fMa dMa) (cHo : CalN P w K mg base "_law_holds" 39 ["machine", "rows", "columns", "due"] (spHo C CM) fHo dHo) (cPt : CalN P w K mg base "_law_parts" 35 ["plain"] (spPt C) fPt dPt) : FnOk P w K mg base CX0 40 f fd ["script"] (spLaw K) := by
  refine F.ok scLaw (fun vs H Q E h => ?_) (fun cdv A outer s H vs Q E hr h => ?_)
  · obtain ⟨a, ns, rfl, _⟩ := h
    rfl
  · obtain ⟨sc, ns, rfl, hS, hl, kend⟩ := h
    have hr1 : Room 1 _ := hr.mono (by decide)
    have hr2 : Room 2 _ := hr.mono (by decide)
    have hr4 : Room 4 _ := hr.mono (by decide)
    have hr34 : Room 34 _ := hr.mono (by decide)
    have hr35 : Room 35 _ := hr.mono (by decide)
    have hr36 : Room 36 _ := hr.mono (by decide)
    have hr37 : Room 37 _ := hr.mono (by decide)
    have hr39 : Room 39 _ := hr
    refine ⟨_, pss_cons (ps_set (i := 1) scLaw.nd rfl (.inr rfl) (pe_call cTp.G hr1 rfl cTp.m cTp.kp cTp.b .nil pass0 (pa_cons (pv 0) pa_nil)))
      (pss_cons (ps_set (i := 2) scLaw.nd rfl (.inl rfl) (pe_call cPn.G hr4 rfl cPn.m cPn.kp cPn.b .nil pass0 (pa_cons (pv 1) (pa_cons pe_bl (pa_cons (pe_lst (pa_cons pe_int (pa_cons pe_int (pa_cons pe_int (pa_cons pe_int pa_nil))))) pa_nil)))))
      (pss_cons (ps_set (i := 3) scLaw.nd rfl (.inr rfl) (pe_ix ix_tup (pv 2) pe_int (fun _ _ => rfl)))
      (pss_cons (ps_set (i := 4) scLaw.nd rfl (.inl rfl) (pe_callB call_len_seq (by rfl) T.len PySem.boot_len (pa_cons (pe_ix ix_tup (pv 2) pe_int (fun _ _ => rfl)) pa_nil)))
      (pss_cons (ps_set (i := 5) scLaw.nd rfl (.inl rfl) (pe_call cRwd.G hr34 rfl cRwd.m cRwd.kp cRwd.b .nil pass0 (pa_cons (pv 2) pa_nil)))
      (pss_cons (ps_set (i := 6) scLaw.nd rfl (.inl rfl) (pe_call cCwd.G hr34 rfl cCwd.m cCwd.kp cCwd.b .nil pass0 (pa_cons (pv 2) pa_nil)))
      (pss_cons (ps_set (i := 7) scLaw.nd rfl (.inl rfl) (pe_callB call_len_seq (by rfl) T.len PySem.boot_len (pa_cons (pv 5) pa_nil)))
      (pss_cons (ps_set (i := 8) scLaw.nd rfl (.inl rfl) (pe_call cNx.G hr1 rfl cNx.m cNx.kp cNx.b .nil pass0 (pa_cons (pv 1) (pa_cons pe_int pa_nil))))
      (pss_cons (ps_set (i := 9) scLaw.nd rfl (.inl rfl) (pe_call cNx.G hr1 rfl cNx.m cNx.kp cNx.b .nil pass0 (pa_cons (pv 1) (pa_cons (pe_op op_add (pv 7) pe_int) pa_nil))))
      (C8.pss_cut (ps_if (pt_cmpR op_eq (pv 8) pe_int (nomark _))
        (pss_cons (ps_set (i := 7) scLaw.nd rfl (.inl rfl) (pe_op op_add (pe_call cNx.G hr1 rfl cNx.m cNx.kp cNx.b .nil pass0 (pa_cons (pv 1) (pa_cons pe_int pa_nil))) (pe_op RQ.op_mulH (pe_op RQ.op_mulH pe_int (pe_callTy call_int1 (by rfl) T.int (by decide +kernel) (pa_cons (pe_cmpR op_gt (pv 4) pe_int (nomark _)) pa_nil))) (pe_call cNx.G hr1 rfl cNx.m cNx.kp cNx.b .nil pass0 (pa_cons (pv 1) (pa_cons pe_int pa_nil))))))
        (pss_cons (ps_setLc (i := 5) (own := [("turn", 13)]) (g := gName 13) (tt := tYes) rfl scLaw.nd rfl rfl (sw_true rfl rfl rfl (by decide +kernel)) (pi_range1 (by rfl) T.range (pa_cons (pv 7) pa_nil)) (blkOk_by (N := ["script", "tape", "plain", "letters", "size", "rows", "columns", "many", "kind", "place", "due", "machine", "twice", "turn"]) (sc := (defScope sLaw)) (by decide +kernel)) (fun _ _ _ _ _ => (pg_name (i := 13) scLaw.nd rfl (.inl rfl))) (fun _ _ _ _ _ => pts_nil) (fun _ _ _ _ _ => (pe_call cWo.G hr2 rfl cWo.m cWo.kp cWo.b .nil pass0 (pa_cons (pv 1) (pa_cons (pv 3) (pa_cons pe_int pa_nil))))))
        (pss_one (ps_setLc (i := 6) (own := [("turn", 13)]) (g := gName 13) (tt := tYes) rfl scLaw.nd rfl rfl (sw_true rfl rfl rfl (by decide +kernel)) (pi_range1 (by rfl) T.range (pa_cons (pv 7) pa_nil)) (blkOk_by (N := ["script", "tape", "plain", "letters", "size", "rows", "columns", "many", "kind", "place", "due", "machine", "twice", "turn"]) (sc := (defScope sLaw)) (by decide +kernel)) (fun _ _ _ _ _ => (pg_name (i := 13) scLaw.nd rfl (.inl rfl))) (fun _ _ _ _ _ => pts_nil) (fun _ _ _ _ _ => (pe_call cWo.G hr2 rfl cWo.m cWo.kp cWo.b .nil pass0 (pa_cons (pv 1) (pa_cons (pv 3) (pa_cons pe_int pa_nil)))))))))
        pss_nil)
      (C8.pss_cut (ps_if (pt_cmpR op_eq (pv 8) pe_int (nomark _))
        (pss_one (ps_set (i := 5) scLaw.nd rfl (.inl rfl) (pe_op op_cat (pe_op op_cat (pe_slice sl_list (pv 5) po_none (po_some (pv 9))) (pe_lst (pa_cons (pe_call cWo.G hr2 rfl cWo.m cWo.kp cWo.b .nil pass0 (pa_cons (pv 1) (pa_cons (pv 3) (pa_cons pe_int pa_nil)))) pa_nil))) (pe_slice sl_list (pv 5) (po_some (pv 9)) po_none))))
        pss_nil)
      (C8.pss_cut (ps_if (PW.pt (pw_and (pt_cmpR op_eq (pv 8) pe_int (nomark _)) (pw_and1 (pt_cmpR op_lt (pv 9) (pv 7) (nomark _)))))
        (pss_one (ps_asg (pe_call cWo.G hr2 rfl cWo.m cWo.kp cWo.b .nil pass0 (pa_cons (pv 1) (pa_cons (pv 3) (pa_cons pe_int pa_nil)))) (pg_sub (pv 5) (pv 9) set_list)))
        pss_nil)
      (C8.pss_cut (ps_if (pt_cmpR op_eq (pv 8) pe_int (nomark _))
        (pss_cons (ps_set (i := 5) scLaw.nd rfl (.inl rfl) (pe_op op_cat (pe_op op_cat (pe_slice sl_list (pv 5) po_none (po_some (pv 9))) (pe_lst (pa_cons (pe_call cWo.G hr2 rfl cWo.m cWo.kp cWo.b .nil pass0 (pa_cons (pv 1) (pa_cons (pv 3) (pa_cons pe_int pa_nil)))) pa_nil))) (pe_slice sl_list (pv 5) (po_some (pv 9)) po_none)))
        (pss_one (ps_set (i := 6) scLaw.nd rfl (.inl rfl) (pe_op op_cat (pv 6) (pe_lst (pa_cons (pe_call cWo.G hr2 rfl cWo.m cWo.kp cWo.b .nil pass0 (pa_cons (pv 1) (pa_cons (pv 3) (pa_cons pe_int pa_nil)))) pa_nil))))))
        pss_nil)
      (C8.pss_cut (ps_if (pt_cmpR op_eq (pv 8) pe_int (nomark _))
        (pss_cons (ps_set (i := 5) scLaw.nd rfl (.inl rfl) (pe_slice sl_list (pv 5) po_none (po_some (pv 9))))
        (pss_one (ps_set (i := 6) scLaw.nd rfl (.inl rfl) (pe_slice sl_list (pv 6) (po_some (pe_op op_sub (pv 7) (pv 9))) po_none))))
        pss_nil)
      (C8.pss_cut (ps_if (pt_cmpR op_eq (pv 8) pe_int (nomark _))
        (pss_cons (ps_set (i := 5) scLaw.nd rfl (.inl rfl) (pe_op op_cat (pe_slice sl_list (pv 5) (po_some (pv 9)) po_none) (pe_slice sl_list (pv 5) po_none (po_some (pv 9)))))
        (pss_one (ps_set (i := 6) scLaw.nd rfl (.inl rfl) (pe_revL (pv 6)))))
        pss_nil)
      (C8.pss_cut (ps_if (pt_cmpR op_eq (pv 8) pe_int (nomark _))
        (pss_one (ps_set (i := 6) scLaw.nd rfl (.inl rfl) (pe_op op_cat (pe_slice sl_list (pv 6) po_none (po_some (pv 9))) (pe_slice sl_list (pv 6) (po_some (pe_op op_add (pv 9) pe_int)) po_none))))
        pss_nil)
      (C8.pss_cut (ps_if (PW.pt (pw_and (pt_cmpR op_eq (pv 8) pe_int (nomark _)) (pw_and1 (pt_cmpR op_lt (pv 9) (pv 7) (nomark _)))))
        (pss_one (ps_asg (pe_call cWo.G hr2 rfl cWo.m cWo.kp cWo.b .nil pass0 (pa_cons (pv 1) (pa_cons (pv 3) (pa_cons pe_int pa_nil)))) (pg_sub (pv 6) (pv 9) set_list)))
        pss_nil)
      (pss_cons (ps_set (i := 5) scLaw.nd rfl (.inl rfl) (pe_slice sl_list (pv 5) po_none (po_some pe_int)))
      (pss_cons (ps_set (i := 6) scLaw.nd rfl (.inl rfl) (pe_slice sl_list (pv 6) po_none (po_some pe_int)))
      (pss_cons (ps_set (i := 10) scLaw.nd rfl (.inl rfl) (pe_call cDu.G hr34 rfl cDu.m cDu.kp cDu.b .nil pass0 (pa_cons (pv 2) (pa_cons (pv 5) (pa_cons (pv 6) pa_nil)))))
      (pss_cons (ps_set (i := 11) scLaw.nd rfl (.inl rfl) (pe_call cMa.G hr36 rfl cMa.m cMa.kp cMa.b .nil pass0 (pa_cons (pe_call cAlk.G hr37 rfl cAlk.m cAlk.kp cAlk.b .nil pass0 (pa_cons (pv 1) (pa_cons (pv 2) (pa_cons (pe_op op_add (pv 4) (pe_op RQ.op_mulH pe_int (pe_callTy call_int1 (by rfl) T.int (by decide +kernel) (pa_cons (pe_cmpR op_lt (pv 4) pe_int (nomark _)) pa_nil)))) pa_nil)))) pa_nil)))
      (pss_cons (ps_if (pt_not (pt_val (pe_call cHo.G hr39 rfl cHo.m cHo.kp cHo.b .nil pass0 (pa_cons (pv 11) (pa_cons (pv 5) (pa_cons (pv 6) (pa_cons (pv 10) pa_nil)))))))
        (pss_one (ps_ret pe_bl))
        pss_nil)
      (C8.pss_cut (ps_if (PW.pt (pw_or (pt_not (pt_val (pe_call cHo.G hr39 rfl cHo.m cHo.kp cHo.b .nil pass0 (pa_cons (pv 11) (pa_cons (pe_lst pa_nil) (pa_cons (pe_lst pa_nil) (pa_cons pe_bl pa_nil))))))) (pw_or1 (pt_not (pt_val (pe_call cHo.G hr39 rfl cHo.m cHo.kp cHo.b .nil pass0 (pa_cons (pe_call cMa.G hr36 rfl cMa.m cMa.kp cMa.b .nil pass0 (pa_cons (pe_call cPt.G hr35 rfl cPt.m cPt.kp cPt.b .nil pass0 (pa_cons (pv 2) pa_nil)) pa_nil)) (pa_cons (pv 5) (pa_cons (pv 6) (pa_cons (pv 10) pa_nil))))))))))
        (pss_one (ps_ret pe_bl))
        pss_nil)
      (pss_cons (ps_set (i := 12) scLaw.nd rfl (.inl rfl) (pe_lst (pa_cons (pe_op op_cat (pe_slice sl_list (pv 5) po_none (po_some pe_int)) (pe_slice sl_list (pv 5) po_none (po_some pe_int))) (pa_cons (pe_op op_cat (pe_slice sl_list (pv 6) po_none (po_some pe_int)) (pe_slice sl_list (pv 6) po_none (po_some pe_int))) pa_nil))))
      (pss_cons (ps_if (pt_not (pt_val (pe_call cHo.G hr39 rfl cHo.m cHo.kp cHo.b .nil pass0 (pa_cons (pv 11) (pa_cons (pe_ix ix_list (pv 12) pe_int (fun _ _ => rfl)) (pa_cons (pe_ix ix_list (pv 12) pe_int (fun _ _ => rfl)) (pa_cons (pe_and (pe_cmpR op_eq (pe_callB call_len_seq (by rfl) T.len PySem.boot_len (pa_cons (pv 5) pa_nil)) pe_int (nomark _)) (pe_one (pe_cmpR op_eq (pe_callB call_len_seq (by rfl) T.len PySem.boot_len (pa_cons (pv 6) pa_nil)) pe_int (nomark _)))) pa_nil)))))))
        (pss_one (ps_ret pe_bl))
        pss_nil)
      (pss_one (ps_ret (pe_call cHo.G hr39 rfl cHo.m cHo.kp cHo.b .nil pass0 (pa_cons (pv 11) (pa_cons (pv 5) (pa_cons (pv 6) (pa_cons (pv 10) pa_nil))))))))))))))))))))))))))))))), ?_⟩
    refine ⟨_, rfl, sc, ns, rfl, hS, hl, fun a cl H1 s1 na nc fe => ?_⟩
    refine ⟨_, rfl, (by show 4 ≤ sizeLine; decide), fun lm nlm => ?_⟩
    have s2 : Same H1 (upd H1 lm (.lst [.int 5, .int 4, .int 3, .int 2])) := Same.upd nlm
    have hlm : (upd H1 lm (.lst [.int 5, .int 4, .int 3, .int 2])) lm = some (.lst [.int 5, .int 4, .int 3, .int 2]) := upd_same
    generalize upd H1 lm (.lst [.int 5, .int 4, .int 3, .int 2]) = H2 at *
    have fe := fe.same s2
    refine ⟨a, cl, lm, true, [5, 4, 3, 2], rfl, fe, ⟨hlm, rfl, by decide⟩, fun pq k n H3 k1 k4 n12 kn g3 fe3 hp3 => ?_⟩
    obtain ⟨p, rfl, rfl, pb, hat⟩ := hp3.at (C := C) k1 k4 n12 kn
    clear g3 hp3 hlm s2 nlm
    obtain ⟨ps, pt, pe, pbb, ta, h1, hps, hpt, hpe, hpb, hta⟩ := hat.pl
    refine ⟨_, rfl, pq, _, 0, _, rfl, rfl, SqT.of h1, rfl, ?_⟩
    refine ⟨_, rfl, pq, _, 1, _, rfl, rfl, SqT.of h1, rfl, ps, _, rfl, .inl (SqL.of hps), ?_⟩
    rw [iV_len]
    refine ⟨_, rfl, pq, p, rfl, hat, pb, fun pr H4 us s4 hr4' lu mu nr wf1 => ?_⟩
    refine ⟨_, rfl, pq, p, rfl, hat.same s4, pb, fun pc H5 ss s5 hc5 ls ms nc5 wf2 => ?_⟩
    refine ⟨_, rfl, pr, _, rfl, .inl (SqL.of (s5 _ _ hr4')), ?_⟩
    rw [wV_len]
    have le : us.length ≤ ss.length := wf_len wf1 wf2
    have fe5 := fe3.same (s4.trans s5)
    have ld : Ld C p H5 a cl pq pr pc us ss := by
      have a3 := ((hat.feed fe3).and nr).same s4
      have a5 := (a3.and nc5).same s5
      have e5 := s5 _ _ hr4'
      refine ⟨fe5, ⟨_, a5, ((alc_emp.and fe5.there).and (by rw [e5]; intro z; cases z)).and (by rw [hc5]; intro z; cases z), .inl (.inl (.inr rfl)), .inl (.inr rfl), .inr rfl⟩, e5, hc5, fe3.ne_new nr, (fe3.same s4).ne_new nc5, fun e => ?_⟩
      rw [← e, hr4'] at nc5
      cases nc5
    refine ⟨_, rfl, a, cl, 9, rfl, fe5, by decide, by decide, fun kd H6 kd0 kd1 f6 b6 => ?_⟩
    refine ⟨_, rfl, _, rfl, _, _, rfl, rfl, a, cl, ((us.length : Int) + 1), rfl, f6, by omega, by omega, fun pl H7 pl0 pl1 f7 b7 => ?_⟩
    obtain ⟨pl, rfl⟩ : ∃ q : Nat, pl = (q : Int) := ⟨pl.toNat, by omega⟩
    have ld7 := (ld.draw b6 f6).draw b7 f7
    have wu : WB p 12 us := ⟨by omega, fun u hu => ⟨by have := (mu u hu).1; omega, (mu u hu).2⟩⟩
    have ws : WB p 12 ss := ⟨by omega, fun u hu => ⟨by have := (ms u hu).1; omega, (ms u hu).2⟩⟩
    clear ld wf1 wf2 hr4' hc5 nr nc5 s4 s5 b6 b7 f6 f7 fe5
    -- the kinds
    refine ⟨SK C p sc a cl pq kd pl 12, ?_, ?_⟩
    · refine ⟨_, rfl, rfl, _, rfl, ite2 (fun e => ?_) (fun _ => ⟨pr, pc, us, ss, us.length, rfl, ld7, wu, ws, fun _ => Nat.le_refl _, fun _ => le⟩)⟩
      have e := kd_of e
      refine ⟨_, rfl, a, cl, 6, rfl, ld7.fe, by decide, by decide, fun y G1 y0 y1 f1 b1 => ?_⟩
      have ld1 := ld7.draw b1 f1
      have h7 : Hg 7 := (show Bt 3 (7 : Int) from by show (7 : Int).natAbs < 2 ^ 3; decide).hg (by decide)
      refine ⟨_, rfl, _, _, rfl, rfl, .inr ⟨_, rfl, _, _, rfl, rfl, ⟨h7, b01 _⟩, ?_⟩⟩
      refine ⟨_, rfl, a, cl, 2, rfl, ld1.fe, by decide, by decide, fun z G2 z0 z1 f2 b2 => ?_⟩
      have ld2 := ld1.draw b2 f2
      have h71 : Hg (7 * (if decide (6 < (p.n : Int)) = true then 1 else 0)) := by
        cases decide (6 < (p.n : Int))
        · exact (show Bt 1 (0 : Int) from by show (0 : Int).natAbs < 2 ^ 1; decide).hg (by decide)
        · exact h7
      have hz : Hg z := (show Bt 1 z from by show z.natAbs < 2 ^ 1; omega).hg (by decide)
      refine ⟨_, _, rfl, rfl, ⟨h71, hz⟩, _, _, rfl, rfl, ?_⟩
      obtain ⟨m, em, m12⟩ := many_of (b := decide (6 < (p.n : Int))) y0 y1 z0 z1
      refine ⟨_, rfl, m, congrArg (fun z : Int => [V.int z]) em, by omega, by omega, fun L nL => ?_⟩
      obtain ⟨La, Lc⟩ := ld2.fe.ne_new nL
      refine lc_it (walk_range (lo := 0) (n := m)) (fun i G' => ∃ vs : List (List Nat), vs.length = i ∧ (∀ u ∈ vs, u.length ≤ 11 ∧ Ltk p.k u) ∧ G' L = some (.lst (wV vs)) ∧ FeedAt G' a cl ∧ But a G2 G') ⟨[], rfl, fun x hx => absurd hx List.not_mem_nil, upd_same, ld2.fe.other La Lc, Same.but (Same.upd nL)⟩ (fun _ _ _ _ => trivial) ?_ ?_
      · rintro i v G3 G4 hi ⟨vs, lv, mv, hL, fL, bL⟩ ⟨rfl, rfl⟩
        refine ⟨rfl, _, rfl, _, rfl, a, cl, p.k, 6, rfl, fL, pb.k1, pb.k4, by decide, fun u G5 lu hu f5 b5 => ?_⟩
        refine ⟨_, b5 _ _ hL La, by rw [wV_len, lv]; exact small1000 (by omega), vs ++ [u], by rw [List.length_append, lv]; rfl, fun x hx => (List.mem_append.mp hx).elim (mv x) fun e => by rw [List.mem_singleton.mp e]; exact ⟨by omega, hu⟩, by rw [upd_same]; exact congrArg (fun l => some (HO.lst l)) (wV_app (ss := [u])), f5.other La Lc, fun c o hc ne => ?_⟩
        rw [upd_ne (ne_of_none hc nL)]
        exact b5 _ _ (bL _ _ hc ne) ne
      rintro G3 ⟨vs, lv, mv, hL, fL, bL⟩
      have ld3 := ld2.new1 bL fL nL hL
      refine ⟨_, rfl, m, congrArg (fun z : Int => [V.int z]) em, by omega, by omega, fun L2 nL2 => ?_⟩
      obtain ⟨La2, Lc2⟩ := ld3.fe.ne_new nL2
      refine lc_it (walk_range (lo := 0) (n := m)) (fun i G' => ∃ vs : List (List Nat), vs.length = i ∧ (∀ u ∈ vs, u.length ≤ 11 ∧ Ltk p.k u) ∧ G' L2 = some (.lst (wV vs)) ∧ FeedAt G' a cl ∧ But a G3 G') ⟨[], rfl, fun x hx => absurd hx List.not_mem_nil, upd_same, ld3.fe.other La2 Lc2, Same.but (Same.upd nL2)⟩ (fun _ _ _ _ => trivial) ?_ ?_
      · rintro i v G4 G5 hi ⟨vs, lv, mv, hL, fL, bL⟩ ⟨rfl, rfl⟩
        refine ⟨rfl, _, rfl, _, rfl, a, cl, p.k, 6, rfl, fL, pb.k1, pb.k4, by decide, fun u G6 lu hu f5 b5 => ?_⟩
        refine ⟨_, b5 _ _ hL La2, by rw [wV_len, lv]; exact small1000 (by omega), vs ++ [u], by rw [List.length_append, lv]; rfl, fun x hx => (List.mem_append.mp hx).elim (mv x) fun e => by rw [List.mem_singleton.mp e]; exact ⟨by omega, hu⟩, by rw [upd_same]; exact congrArg (fun l => some (HO.lst l)) (wV_app (ss := [u])), f5.other La2 Lc2, fun c o hc ne => ?_⟩
        rw [upd_ne (ne_of_none hc nL2)]
        exact b5 _ _ (bL _ _ hc ne) ne
      rintro G4 ⟨xs, lx, mx, hL2, fL2, bL2⟩
      have ld4 := ld3.new2 bL2 fL2 nL2 hL2
      exact ⟨L, L2, vs, xs, m, by rw [← em]; rfl, ld4, ⟨by omega, mv⟩, ⟨by omega, mx⟩, fun z => absurd (e.symm.trans z) (by decide), fun z => absurd (e.symm.trans z) (by decide)⟩
    rintro σ G ⟨pr, pc, us, ss, many, rfl, ld, wu, ws, c3, c8⟩
    refine ⟨SK C p sc a cl pq kd pl 25, ?_, ?_⟩
    · refine ⟨_, rfl, rfl, _, rfl, ite2 (fun e => ?_) (fun _ => ⟨pr, pc, us, ss, many, rfl, ld, wu.up (by decide), ws.up (by decide), c3, c8⟩)⟩
      have e := kd_of e
      refine ⟨_, rfl, _, rfl, _, rfl, ?_⟩
      refine slR ld.hr fun q1 G1 n1 s1 h1 => ?_
      have ld1 := ld.same s1
      refine ⟨_, rfl, _, rfl, a, cl, p.k, 6, rfl, ld1.fe, pb.k1, pb.k4, by decide, fun u2 G2 lu2 hu2 f2 b2 => ?_⟩
      have ld2 := ld1.draw b2 f2
      refine ⟨(by show 1 ≤ sizeLine; decide), fun q3 n3 => ?_⟩
      have s3 : Same _ _ := Same.upd (o := .lst [.str (wd u2)]) n3
      have h3 : (upd _ q3 (.lst [.str (wd u2)])) q3 = some (.lst (wV [u2])) := upd_same (H := G2)
      generalize upd G2 q3 (.lst [.str (wd u2)]) = G3 at *
      have ld3 := ld2.same s3
      refine catR (s3 _ _ (b2 _ _ h1 (ld.fe.ne_new n1).1)) h3 (by have := (wu.cut none (some (pl : Int))).l; simp only [List.length_cons, List.length_nil]; omega) fun q4 G4 n4 s4 h4 => ?_
      have ld4 := ld3.same s4
      refine ⟨_, rfl, _, rfl, _, rfl, ?_⟩
      refine noPart ?_
      refine slR ld4.hr fun q5 G5 n5 s5 h5 => ?_
      have ld5 := ld4.same s5
      refine catR (s5 _ _ h4) h5 (by have := (wu.cut none (some (pl : Int))).l; have := (wu.cut (some (pl : Int)) none).l; rw [List.length_append]; simp only [List.length_cons, List.length_nil]; omega) fun q6 G6 n6 s6 h6 => ?_
      have ld6 := ld5.same s6
      have bb : But a G G6 := (Same.but s1).trans (b2.trans (Same.but (s3.trans (s4.trans (s5.trans s6)))))
      have k6 : G q6 = none := by
        have b5' : But a G G5 := (Same.but s1).trans (b2.trans (Same.but (s3.trans (s4.trans s5))))
        exact b5'.free n6 ld5.fe
      have ldR := ld.new1 bb ld6.fe k6 h6
      have wR : WB p (12 + 1 + 12) _ := ((wu.cut none (some (pl : Int))).app (WB.one lu2 hu2)).app (wu.cut (some (pl : Int)) none)
      exact ⟨q6, pc, _, ss, many, rfl, ldR, wR, ws.up (by decide), fun z => absurd (e.symm.trans z) (by decide), fun z => absurd (e.symm.trans z) (by decide)⟩
    rintro σ G ⟨pr, pc, us, ss, many, rfl, ld, wu, ws, c3, c8⟩
    refine ⟨SK C p sc a cl pq kd pl 25, ?_, ?_⟩
    · refine ⟨_, rfl, rfl, _, rfl, ite2 (fun e => ⟨_, rfl, _, rfl, _, _, rfl, rfl, _, rfl, ite2 (fun lt => ?_) (fun _ => ⟨pr, pc, us, ss, many, rfl, ld, wu.up (by decide), ws.up (by decide), c3, c8⟩)⟩) (fun _ => iteF ⟨pr, pc, us, ss, many, rfl, ld, wu.up (by decide), ws.up (by decide), c3, c8⟩)⟩
      have e := kd_of e
      refine ⟨_, rfl, _, rfl, a, cl, p.k, 6, rfl, ld.fe, pb.k1, pb.k4, by decide, fun u1 G1 lu1 hu1 f1 b1 => ?_⟩
      have ld1 := ld.draw b1 f1
      have hm := c3 e
      have lt : pl < us.length := by have := of_decide_eq_true lt; omega
      refine ⟨_, rfl, _, rfl, pr, _, (pl : Int), pl, rfl, rfl, ld1.hr, ixN_nat (by rw [wV_len]; exact lt), ?_⟩
      rw [wV_set]
      exact ⟨pr, pc, _, ss, many, rfl, ld1.set1, wu.set lu1 hu1, ws, fun _ => by rw [List.length_set]; exact hm, fun z => absurd (e.symm.trans z) (by decide)⟩
    rintro σ G ⟨pr, pc, us, ss, many, rfl, ld, wu, ws, c3, c8⟩
    refine ⟨SK C p sc a cl pq kd pl 51, ?_, ?_⟩
    · refine ⟨_, rfl, rfl, _, rfl, ite2 (fun e => ?_) (fun _ => ⟨pr, pc, us, ss, many, rfl, ld, wu.up (by decide), ws.up (by decide), c3, c8⟩)⟩
      have e := kd_of e
      refine ⟨_, rfl, _, rfl, _, rfl, ?_⟩
      refine slR ld.hr fun q1 G1 n1 s1 h1 => ?_
      have ld1 := ld.same s1
      refine ⟨_, rfl, _, rfl, a, cl, p.k, 6, rfl, ld1.fe, pb.k1, pb.k4, by decide, fun u2 G2 lu2 hu2 f2 b2 => ?_⟩
      have ld2 := ld1.draw b2 f2
      refine ⟨(by show 1 ≤ sizeLine; decide), fun q3 n3 => ?_⟩
      have s3 : Same _ _ := Same.upd (o := .lst [.str (wd u2)]) n3
      have h3 : (upd _ q3 (.lst [.str (wd u2)])) q3 = some (.lst (wV [u2])) := upd_same (H := G2)
      generalize upd G2 q3 (.lst [.str (wd u2)]) = G3 at *
      have ld3 := ld2.same s3
      refine catR (s3 _ _ (b2 _ _ h1 (ld.fe.ne_new n1).1)) h3 (by have := (wu.cut none (some (pl : Int))).l; simp only [List.length_cons, List.length_nil]; omega) fun q4 G4 n4 s4 h4 => ?_
      have ld4 := ld3.same s4
      refine ⟨_, rfl, _, rfl, _, rfl, ?_⟩
      refine noPart ?_
      refine slR ld4.hr fun q5 G5 n5 s5 h5 => ?_
      have ld5 := ld4.same s5
      refine catR (s5 _ _ h4) h5 (by have := (wu.cut none (some (pl : Int))).l; have := (wu.cut (some (pl : Int)) none).l; rw [List.length_append]; simp only [List.length_cons, List.length_nil]; omega) fun q6 G6 n6 s6 h6 => ?_
      have ld6 := ld5.same s6
      have bb : But a G G6 := (Same.but s1).trans (b2.trans (Same.but (s3.trans (s4.trans (s5.trans s6)))))
      have k6 : G q6 = none := by
        have b5' : But a G G5 := (Same.but s1).trans (b2.trans (Same.but (s3.trans (s4.trans s5))))
        exact b5'.free n6 ld5.fe
      have ldR := ld.new1 bb ld6.fe k6 h6
      have wR : WB p (25 + 1 + 25) _ := ((wu.cut none (some (pl : Int))).app (WB.one lu2 hu2)).app (wu.cut (some (pl : Int)) none)
      refine ⟨_, rfl, ?_⟩
      refine ⟨_, rfl, _, rfl, a, cl, p.k, 6, rfl, ldR.fe, pb.k1, pb.k4, by decide, fun u7 G7 lu7 hu7 f7 b7 => ?_⟩
      have ld7 := ldR.draw b7 f7
      refine ⟨(by show 1 ≤ sizeLine; decide), fun q8 n8 => ?_⟩
      have s8 : Same _ _ := Same.upd (o := .lst [.str (wd u7)]) n8
      have h8 : (upd _ q8 (.lst [.str (wd u7)])) q8 = some (.lst (wV [u7])) := upd_same (H := G7)
      generalize upd G7 q8 (.lst [.str (wd u7)]) = G8 at *
      have ld8 := ld7.same s8
      refine catR ld8.hc h8 (by have := ws.l; simp only [List.length_cons, List.length_nil]; omega) fun q9 G9 n9 s9 h9 => ?_
      have ld9 := ld8.same s9
      have ldC := ld7.new2 (Same.but (s8.trans s9)) ld9.fe (s8.free n9) h9
      exact ⟨q6, q9, _, _, many, rfl, ldC, wR, (ws.app (WB.one lu7 hu7)).up (by decide), fun z => absurd (e.symm.trans z) (by decide), fun z => absurd (e.symm.trans z) (by decide)⟩
    rintro σ G ⟨pr, pc, us, ss, many, rfl, ld, wu, ws, c3, c8⟩
    refine ⟨SK C p sc a cl pq kd pl 51, ?_, ?_⟩
    · refine ⟨_, rfl, rfl, _, rfl, ite2 (fun e => ?_) (fun _ => ⟨pr, pc, us, ss, many, rfl, ld, wu.up (by decide), ws.up (by decide), c3, c8⟩)⟩
      have e := kd_of e
      refine ⟨_, rfl, _, rfl, _, rfl, ?_⟩
      refine slR ld.hr fun q1 G1 n1 s1 h1 => ?_
      have ld1 := ld.same s1
      have ldR := ld.new1 (Same.but s1) ld1.fe n1 h1
      refine ⟨_, rfl, _, rfl, _, rfl, _, _, rfl, rfl, _, rfl, ?_⟩
      refine noPart ?_
      refine slR ldR.hc fun q2 G2 n2 s2 h2 => ?_
      have ld2 := ldR.same s2
      have ldC := ldR.new2 (Same.but s2) ld2.fe n2 h2
      exact ⟨q1, q2, _, _, many, rfl, ldC, wu.cut _ _, ws.cut _ _, fun z => absurd (e.symm.trans z) (by decide), fun z => absurd (e.symm.trans z) (by decide)⟩
    rintro σ G ⟨pr, pc, us, ss, many, rfl, ld, wu, ws, c3, c8⟩
    refine ⟨SK C p sc a cl pq kd pl 102, ?_, ?_⟩
    · refine ⟨_, rfl, rfl, _, rfl, ite2 (fun e => ?_) (fun _ => ⟨pr, pc, us, ss, many, rfl, ld, wu.up (by decide), ws.up (by decide), c3, c8⟩)⟩
      have e := kd_of e
      refine ⟨_, rfl, _, rfl, _, rfl, ?_⟩
      refine noPart ?_
      refine slR ld.hr fun q1 G1 n1 s1 h1 => ?_
      have ld1 := ld.same s1
      refine ⟨_, rfl, _, rfl, _, rfl, ?_⟩
      refine slR ld1.hr fun q2 G2 n2 s2 h2 => ?_
      have ld2 := ld1.same s2
      refine catR (s2 _ _ h1) h2 (by have := (wu.cut (some (pl : Int)) none).l; have := (wu.cut none (some (pl : Int))).l; omega) fun q3 G3 n3 s3 h3 => ?_
      have ld3 := ld2.same s3
      have ldR := ld.new1 (Same.but (s1.trans (s2.trans s3))) ld3.fe (s1.free (s2.free n3)) h3
      have wR : WB p (51 + 51) _ := (wu.cut (some (pl : Int)) none).app (wu.cut none (some (pl : Int)))
      refine ⟨_, rfl, pc, _, rfl, SqL.of ldR.hc, fun q4 n4 => ?_⟩
      rw [wV_rev]
      have s4 : Same G3 (upd G3 q4 (.lst (wV ss.reverse))) := Same.upd n4
      have ldC := ldR.new2 (Same.but s4) (ldR.fe.same s4) n4 upd_same
      exact ⟨q3, q4, _, _, many, rfl, ldC, wR, ws.rev.up (by decide), fun z => absurd (e.symm.trans z) (by decide), fun z => absurd (e.symm.trans z) (by decide)⟩
    rintro σ G ⟨pr, pc, us, ss, many, rfl, ld, wu, ws, c3, c8⟩
    refine ⟨SK C p sc a cl pq kd pl 204, ?_, ?_⟩
    · refine ⟨_, rfl, rfl, _, rfl, ite2 (fun e => ?_) (fun _ => ⟨pr, pc, us, ss, many, rfl, ld, wu.up (by decide), ws.up (by decide), c3, c8⟩)⟩
      have e := kd_of e
      refine ⟨_, rfl, _, rfl, _, rfl, ?_⟩
      refine slR ld.hc fun q1 G1 n1 s1 h1 => ?_
      have ld1 := ld.same s1
      refine ⟨_, rfl, _, rfl, _, _, rfl, rfl, _, rfl, ?_⟩
      refine noPart ?_
      refine slR ld1.hc fun q2 G2 n2 s2 h2 => ?_
      have ld2 := ld1.same s2
      refine catR (s2 _ _ h1) h2 (by have := (ws.cut none (some (pl : Int))).l; have := (ws.cut (some ((pl : Int) + 1)) none).l; omega) fun q3 G3 n3 s3 h3 => ?_
      have ld3 := ld2.same s3
      have ldC := ld.new2 (Same.but (s1.trans (s2.trans s3))) ld3.fe (s1.free (s2.free n3)) h3
      have wC : WB p (102 + 102) _ := (ws.cut none (some (pl : Int))).app (ws.cut (some ((pl : Int) + 1)) none)
      exact ⟨pr, q3, us, _, many, rfl, ldC, wu.up (by decide), wC, fun z => absurd (e.symm.trans z) (by decide), fun z => absurd (e.symm.trans z) (by decide)⟩
    rintro σ G ⟨pr, pc, us, ss, many, rfl, ld, wu, ws, c3, c8⟩
    refine ⟨SK C p sc a cl pq kd pl 204, ?_, ?_⟩
    · refine ⟨_, rfl, rfl, _, rfl, ite2 (fun e => ⟨_, rfl, _, rfl, _, _, rfl, rfl, _, rfl, ite2 (fun lt => ?_) (fun _ => ⟨pr, pc, us, ss, many, rfl, ld, wu.up (by decide), ws.up (by decide), c3, c8⟩)⟩) (fun _ => iteF ⟨pr, pc, us, ss, many, rfl, ld, wu.up (by decide), ws.up (by decide), c3, c8⟩)⟩
      have e := kd_of e
      refine ⟨_, rfl, _, rfl, a, cl, p.k, 6, rfl, ld.fe, pb.k1, pb.k4, by decide, fun u1 G1 lu1 hu1 f1 b1 => ?_⟩
      have ld1 := ld.draw b1 f1
      have hm := c8 e
      have lt : pl < ss.length := by have := of_decide_eq_true lt; omega
      refine ⟨_, rfl, _, rfl, pc, _, (pl : Int), pl, rfl, rfl, ld1.hc, ixN_nat (by rw [wV_len]; exact lt), ?_⟩
      rw [wV_set]
      exact ⟨pr, pc, us, _, many, rfl, ld1.set2, wu, ws.set lu1 hu1, fun z => absurd (e.symm.trans z) (by decide), fun _ => by rw [List.length_set]; exact hm⟩
    rintro σ G ⟨pr0, pc0, us0, ss0, many, rfl, ld0, wu0, ws0, _, _⟩
    -- at most twelve words each
    refine ⟨_, rfl, _, rfl, ?_⟩
    refine slR ld0.hr fun q1 G1 n1 s1 h1 => ?_
    rw [show cutW us0 none (some 12) = us0.take 12 from cutW_take (k := 12)] at h1
    have ld1 := ld0.new1 (Same.but s1) (ld0.fe.same s1) n1 h1
    refine ⟨_, rfl, _, rfl, ?_⟩
    refine slR ld1.hc fun q2 G2 n2 s2 h2 => ?_
    rw [show cutW ss0 none (some 12) = ss0.take 12 from cutW_take (k := 12)] at h2
    have ld2 := ld1.new2 (Same.but s2) (ld1.fe.same s2) n2 h2
    have wu : Wds p (us0.take 12) := ⟨by rw [List.length_take]; omega, fun u hu => wu0.w u (List.mem_of_mem_take hu)⟩
    have ws : Wds p (ss0.take 12) := ⟨by rw [List.length_take]; omega, fun u hu => ws0.w u (List.mem_of_mem_take hu)⟩
    generalize us0.take 12 = us at *
    generalize ss0.take 12 = ss at *
    clear wu0 ws0 h1 h2 s1 s2 n1 n2 ld0 ld1
    refine ⟨_, rfl, _, rfl, _, rfl, pq, q1, q2, p, us, ss, rfl, ld2.at, pb, ld2.hr, ld2.hc, wu.l, ws.l, fun u hu => ⟨by have := (wu.w u hu).1; omega, (wu.w u hu).2⟩, fun u hu => ⟨by have := (ws.w u hu).1; omega, (ws.w u hu).2⟩, fun G3 s3 => ?_⟩
    have ld3 := ld2.same s3
    -- the machine
    have h2g : Hg 2 := (show Bt 2 (2 : Int) from by show (2 : Int).natAbs < 2 ^ 2; decide).hg (by decide)
    refine ⟨_, rfl, _, rfl, _, rfl, _, rfl, _, _, rfl, rfl, .inr ⟨_, rfl, _, _, rfl, rfl, ⟨h2g, b01 _⟩, _, _, rfl, rfl, a, cl, pq, p, _, rfl, ld3.fe, ld3.at, pb, ?_, fun r G4 O m l fr fe4 nw pe al l4 n14 => ?_⟩⟩
    · have n12 := pb.n12
      show (p.n : Int) + 2 * (if decide ((p.n : Int) < 6) = true then 1 else 0) ≤ 14
      by_cases c : (p.n : Int) < 6
      · rw [decide_eq_true c, if_pos rfl]; omega
      · rw [decide_eq_false c, if_neg (by decide)]; omega
    have hr4 := fr.get ld3.hr ld3.ra.1
    have hc4 := fr.get ld3.hc ld3.ca.1
    have at4 : At C Emp G4 (.ref pq) (plD p) := ((ld3.at.feed ld3.fe).keep (fr.k.more fun b z => Or.inr z)).less fun _ z => z.elim
    refine ⟨Emp, r, m, rfl, pe.at, alc_emp, by rw [al.k]; exact pb.k1, by rw [al.k]; exact pb.k4, by omega, fun pm ad G5 s5 npm nad hm => ?_⟩
    have k1 := s5 _ _ hr4
    have k2 := s5 _ _ hc4
    have at5 := (at4.and nad).same s5
    have alc5 : Alc (And1 Emp ad) G5 := alc_emp.and hm.there
    have ne1 : q1 ≠ ad := ne_of_none hr4 nad
    have ne2 : q2 ≠ ad := ne_of_none hc4 nad
    clear fr hr4 hc4 at4 s5 pe nw ld2 ld3
    refine ⟨_, rfl, _, rfl, _, rfl, _, rfl, And1 Emp ad, pm, ad, m, p, l, q1, q2, us, ss, rfl, hm, alc5, pb, al, l4, n14, k1, k2, wu, ws, ne1, ne2, fun G6 b6 m6 => ⟨true, rfl, iteF ?_⟩⟩
    have k1 := b6 _ _ k1 ne1
    have k2 := b6 _ _ k2 ne2
    have kp6 : Keep (And1 Emp ad) G5 G6 := Keep.but b6 (Or.inr rfl) m6.there
    have at6 := at5.keep kp6
    have alc6 := alc5.keep kp6
    -- no words; the machine itself
    refine ⟨fun σ' G => ∃ ad2, σ' = [some (.ref sc), some (.ref a), some (.ref pq), some (.int (p.k : Int)), some (.int (p.n : Int)), some (.ref q1), some (.ref q2), some (.int (many : Int)), some (.int kd), some (.int (pl : Int)), some (.bl (cor p us ss)), some (.ref pm), none, none] ∧ MachAt C CM (And1 (And1 Emp ad) ad2) G pm ad m ∧ Alc (And1 (And1 Emp ad) ad2) G ∧ G q1 = some (.lst (wV us)) ∧ G q2 = some (.lst (wV ss)), ?_, ?_⟩
    · refine ⟨_, rfl, (by show 0 ≤ sizeLine; decide), fun e1 ne1' => ?_⟩
      have t1 : Same G6 (upd G6 e1 (.lst [])) := Same.upd ne1'
      have g1 : (upd G6 e1 (.lst [])) e1 = some (.lst (wV [])) := upd_same
      generalize upd G6 e1 (.lst []) = G7 at *
      refine ⟨(by show 0 ≤ sizeLine; decide), fun e2 ne2' => ?_⟩
      have t2 : Same G7 (upd G7 e2 (.lst [])) := Same.upd ne2'
      have g2 : (upd G7 e2 (.lst [])) e2 = some (.lst (wV [])) := upd_same
      generalize upd G7 e2 (.lst []) = G8 at *
      have t12 := t1.trans t2
      have m8 := m6.same t12
      have a1 : e1 ≠ ad := fun e => m6.there (by rw [← e]; exact ne1')
      have a2 : e2 ≠ ad := fun e => m6.there (t1.free (by rw [← e]; exact ne2'))
      have w0 : Wds p [] := ⟨by decide, fun u hu => absurd hu List.not_mem_nil⟩
      refine ⟨And1 Emp ad, pm, ad, m, p, l, e1, e2, [], [], (by rw [cor_nil]; rfl), m8, (alc6.keep (Same.keep (N := And1 Emp ad) t12)), pb, al, l4, n14, (t2 _ _ g1), g2, w0, w0, a1, a2, fun G9 b9 m9 => ⟨true, rfl, iteF ?_⟩⟩
      have k1 := b9 _ _ (t12 _ _ k1) ne1
      have k2 := b9 _ _ (t12 _ _ k2) ne2
      have kp9 : Keep (And1 Emp ad) G8 G9 := Keep.but b9 (Or.inr rfl) m9.there
      have at9 := (at6.same t12).keep kp9
      have alc9 := (alc6.keep (Same.keep (N := And1 Emp ad) t12)).keep kp9
      refine ⟨_, rfl, pq, p, rfl, at9.drop, pb, fun r2 G10 O2 s10 nw2 pe2 => ?_⟩
      refine ⟨Emp, r2, m0 p, rfl, pe2.at, alc_emp, pb.k1, pb.k4, by show p.n ≤ 1000; have := pb.n12; omega, fun pm2 ad2 G11 s11 npm2 nad2 hm2 => ?_⟩
      have s911 := s10.trans s11
      have k1 := s911 _ _ k1
      have k2 := s911 _ _ k2
      have d1 : q1 ≠ ad2 := fun e => by have := s10 _ _ (b9 _ _ (t12 _ _ (b6 _ _ ‹G5 q1 = _› ne1)) ne1); rw [e, nad2] at this; cases this
      have d2 : q2 ≠ ad2 := fun e => by have := s10 _ _ (b9 _ _ (t12 _ _ (b6 _ _ ‹G5 q2 = _› ne2)) ne2); rw [e, nad2] at this; cases this
      have ad12 : ad ≠ ad2 := fun e => m9.there (s10.free (by rw [e]; exact nad2))
      refine ⟨_, rfl, _, rfl, _, rfl, And1 Emp ad2, pm2, ad2, (m0 p), p, 0, q1, q2, us, ss, rfl, hm2, (alc_emp.and hm2.there), pb, (alk0 pb), (by decide), (by show p.n ≤ 14; have := pb.n12; omega), k1, k2, wu, ws, d1, d2, fun G12 b12 m12 => ⟨true, rfl, iteF ?_⟩⟩
      refine ⟨ad2, rfl, ?_, ?_, b12 _ _ k1 d1, b12 _ _ k2 d2⟩
      · exact (((m9.same s10).and nad2).same s11).but b12 ad12 (Or.inr rfl) m12.there
      · have al10 : Alc (And1 Emp ad) G12 := fun b z => by
          have e9 := alc9 b z
          have e11 : G11 b ≠ none := (Same.keep (N := Emp) s911).a b e9
          exact (Keep.but (N := And1 Emp ad2) b12 (Or.inr rfl) m12.there).a b e11
        exact al10.and m12.there
    rintro σ G13 ⟨ad2, rfl, m13, alc13, k1, k2⟩
    -- a word twice
    refine ⟨_, rfl, _, rfl, ?_⟩
    refine slR k1 fun t14 G14 nn14 s14 h14 => ?_
    rw [show cutW _ none (some 11) = _ from cutW_take (k := 11)] at h14
    refine ⟨_, rfl, _, rfl, ?_⟩
    refine slR (s14 _ _ k1) fun t15 G15 nn15 s15 h15 => ?_
    rw [show cutW _ none (some 1) = _ from cutW_take (k := 1)] at h15
    refine catR (s15 _ _ h14) h15 (by rw [List.length_take, List.length_take]; omega) fun t16 G16 nn16 s16 h16 => ?_
    have sA := s14.trans (s15.trans s16)
    refine ⟨_, rfl, _, rfl, ?_⟩
    refine slR (sA _ _ k2) fun t17 G17 nn17 s17 h17 => ?_
    rw [show cutW _ none (some 11) = _ from cutW_take (k := 11)] at h17
    refine ⟨_, rfl, _, rfl, ?_⟩
    refine slR ((sA.trans s17) _ _ k2) fun t18 G18 nn18 s18 h18 => ?_
    rw [show cutW _ none (some 1) = _ from cutW_take (k := 1)] at h18
    refine catR (s18 _ _ h17) h18 (by rw [List.length_take, List.length_take]; omega) fun t19 G19 nn19 s19 h19 => ?_
    have sB := sA.trans (s17.trans (s18.trans s19))
    have h16' := (s17.trans (s18.trans s19)) _ _ h16
    refine ⟨(by show 2 ≤ sizeLine; decide), fun tw ntw => ?_⟩
    have sT : Same G19 (upd G19 tw (.lst [.ref t16, .ref t19])) := Same.upd ntw
    have hT : (upd G19 tw (.lst [.ref t16, .ref t19])) tw = some (.lst [.ref t16, .ref t19]) := upd_same
    generalize upd G19 tw (.lst [.ref t16, .ref t19]) = G20 at *
    have sC := sB.trans sT
    have m19 := m13.same sC
    have alc19 := alc13.keep (Same.keep (N := And1 (And1 Emp ad) ad2) sC)
    have k1 := sC _ _ k1
    have k2 := sC _ _ k2
    have wT : ∀ {us : List (List Nat)}, Wds p us → Wds p (us.take 11 ++ us.take 1) := fun {us} h => ⟨by rw [List.length_append, List.length_take, List.length_take]; omega, fun u hu => (List.mem_append.mp hu).elim (fun z => h.w u (List.mem_of_mem_take z)) fun z => h.w u (List.mem_of_mem_take z)⟩
    have ct := cor_twice (p := p) (us := us) (ss := ss)
    have tA : t16 ≠ ad := fun e => m13.there ((s14.trans s15).free (by rw [← e]; exact nn16))
    have tB : t19 ≠ ad := fun e => m13.there ((sA.trans (s17.trans s18)).free (by rw [← e]; exact nn19))
    refine ⟨_, rfl, _, rfl, tw, _, 0, _, rfl, rfl, SqL.of hT, at_of (j := 0) (v := .ref t16) rfl rfl, _, rfl, tw, _, 1, _, rfl, rfl, SqL.of hT, at_of (j := 1) (v := .ref t19) rfl rfl, ?_⟩
    refine ⟨_, rfl, q1, _, rfl, .inl (SqL.of k1), rfl, _, rfl, ite2 (fun e => ?_) (fun e => ?_)⟩
    · rw [wV_len, dec0] at e
      rw [e, Bool.true_and] at ct
      refine ⟨_, rfl, q2, _, rfl, .inl (SqL.of k2), rfl, ?_⟩
      have ev : decide (V.int (((wV ss).length : Nat) : Int) = V.int 0) = cor p (us.take 11 ++ us.take 1) (ss.take 11 ++ ss.take 1) := by rw [ct, wV_len, dec0]
      refine ⟨And1 (And1 Emp ad) ad2, pm, ad, m, p, l, t16, t19, us.take 11 ++ us.take 1, ss.take 11 ++ ss.take 1, congrArg (fun b => [V.ref pm, V.ref t16, V.ref t19, V.bl b]) ev, m19, alc19, pb, al, l4, n14, sT _ _ h16', sT _ _ h19, wT wu, wT ws, tA, tB, fun G20' b20 m20 => ⟨true, rfl, iteF ?_⟩⟩
      have k1 := b20 _ _ k1 ne1
      have k2 := b20 _ _ k2 ne2
      have alc20 : Alc (And1 (And1 Emp ad) ad2) G20' := alc19.keep (Keep.but (N := And1 (And1 Emp ad) ad2) b20 (Or.inl (Or.inr rfl)) m20.there)
      refine ⟨_, rfl, _, rfl, _, rfl, _, rfl, And1 (And1 Emp ad) ad2, pm, ad, m, p, l, q1, q2, us, ss, rfl, m20, alc20, pb, al, l4, n14, k1, k2, wu, ws, ne1, ne2, fun G21 b21 m21 => ?_⟩
      exact kend G21
    · rw [wV_len, dec0] at e
      have e : decide (us.length = 0) = false := by
        cases h : decide (us.length = 0) with
        | true => exact absurd h e
        | false => rfl
      rw [e, Bool.false_and] at ct
      have ev := ct.symm
      refine ⟨And1 (And1 Emp ad) ad2, pm, ad, m, p, l, t16, t19, us.take 11 ++ us.take 1, ss.take 11 ++ ss.take 1, congrArg (fun b => [V.ref pm, V.ref t16, V.ref t19, V.bl b]) ev, m19, alc19, pb, al, l4, n14, sT _ _ h16', sT _ _ h19, wT wu, wT ws, tA, tB, fun G20' b20 m20 => ⟨true, rfl, iteF ?_⟩⟩
      have k1 := b20 _ _ k1 ne1
      have k2 := b20 _ _ k2 ne2
      have alc20 : Alc (And1 (And1 Emp ad) ad2) G20' := alc19.keep (Keep.but (N := And1 (And1 Emp ad) ad2) b20 (Or.inl (Or.inr rfl)) m20.there)
      refine ⟨_, rfl, _, rfl, _, rfl, _, rfl, And1 (And1 Emp ad) ad2, pm, ad, m, p, l, q1, q2, us, ss, rfl, m20, alc20, pb, al, l4, n14, k1, k2, wu, ws, ne1, ne2, fun G21 b21 m21 => ?_⟩
      exact kend G21
end
end RX

set_option Elab.async false
set_option maxRecDepth 100000
namespace RX
open PySem L2

set_option maxHeartbeats 0 in
theorem all_mk {l : PySem.W.OpenLaw} {w : World} {K : PySem.W.Frag} {h : Heap} {mg : Str → Option Value} {fa C CM CS fCb fTa fRa fTb fRt fWp fWr fSf fSh fTh fAl fCw fWc fLp fWs fFr fIs fTp fNx fGr fEn fLsh fLo fPl fBy fDt fAh fBh fLs fBo fPn fOv fPt fDe fRi fLe fCh fPr fUs fUr fAk fRs fMa fRo fRws fCls fFo fTo fRwd fCwd fCl fWo fDu fHo fL fI fMi fFi fSt fRw fMr fMc fSpi fSrs fStk fSro  TT : Addr} (X : K.In h) (G : h.Ns mainGlobals mg) (hfa : mg "law" = some (.ref fa)) (ht : l.prog.given.tree = none)
    {odCb odTa odRa odTb odRt odWp odWr odSf odSh odTh odAl odCw odWc odLp odWs odFr odIs odTp odNx odGr odEn odLsh odLo odPl odBy odDt odAh odBh odLs odBo odPn odOv odPt odDe odRi odLe odCh odPr odUs odUr odAk odRs odMa odRo odRws odCls odFo odTo odRwd odCwd odCl odWo odDu odHo odL odI odMi odFi odSt odRw odMr odMc odSpi odSrs odStk odSro odT anCb anTa anRa anTb anRt anWp anWr anSf anSh anTh anAl anCw anWc anLp anWs anFr anIs anTp anNx anGr anEn anLsh anLo anPl anBy anDt anAh anBh anLs anBo anPn anOv anPt anDe anRi anLe anCh anPr anUs anUr anAk anRs anMa anRo anRws anCls anFo anTo anRwd anCwd anCl anWo anDu anHo anL anI anMi anFi anSt anRw anMr anMc anSpi anSrs anStk anSro : Option Addr} {slCb slTa slRa slTb slRt slWp slWr slSf slSh slTh slAl slCw slWc slLp slWs slFr slIs slTp slNx slGr slEn slLsh slLo slPl slBy slDt slAh slBh slLs slBo slPn slOv slPt slDe slRi slLe slCh slPr slUs slUr slAk slRs slMa slRo slRws slCls slFo slTo slRwd slCwd slCl slWo slDu slHo slL slI slMi slFi slSt slRw slMr slMc slSpi slSrs slStk slSro slT : Array (Option Value)} {ocCb kVCb dcCb pmCb cdCb ctCb ocTa kVTa dcTa pmTa cdTa ctTa ocRa kVRa dcRa pmRa cdRa ctRa ocTb kVTb dcTb pmTb cdTb ctTb ocRt kVRt dcRt pmRt cdRt ctRt ocWp kVWp dcWp pmWp cdWp ctWp ocWr kVWr dcWr pmWr cdWr ctWr ocSf kVSf dcSf pmSf cdSf ctSf ocSh kVSh dcSh pmSh cdSh ctSh ocTh kVTh dcTh pmTh cdTh ctTh ocAl kVAl dcAl pmAl cdAl ctAl ocCw kVCw dcCw pmCw cdCw ctCw ocWc kVWc dcWc pmWc cdWc ctWc ocLp kVLp dcLp pmLp cdLp ctLp ocWs kVWs dcWs pmWs cdWs ctWs ocFr kVFr dcFr pmFr cdFr ctFr ocIs kVIs dcIs pmIs cdIs ctIs ocTp kVTp dcTp pmTp cdTp ctTp ocNx kVNx dcNx pmNx cdNx ctNx ocGr kVGr dcGr pmGr cdGr ctGr ocEn kVEn dcEn pmEn cdEn ctEn ocLsh kVLsh dcLsh pmLsh cdLsh ctLsh ocLo kVLo dcLo pmLo cdLo ctLo ocPl kVPl dcPl pmPl cdPl ctPl ocBy kVBy dcBy pmBy cdBy ctBy ocDt kVDt dcDt pmDt cdDt ctDt ocAh kVAh dcAh pmAh cdAh ctAh ocBh kVBh dcBh pmBh cdBh ctBh ocLs kVLs dcLs pmLs cdLs ctLs ocBo kVBo dcBo pmBo cdBo ctBo ocPn kVPn dcPn pmPn cdPn ctPn ocOv kVOv dcOv pmOv cdOv ctOv ocPt kVPt dcPt pmPt cdPt ctPt ocDe kVDe dcDe pmDe cdDe ctDe ocRi kVRi dcRi pmRi cdRi ctRi ocLe kVLe dcLe pmLe cdLe ctLe ocCh kVCh dcCh pmCh cdCh ctCh ocPr kVPr dcPr pmPr cdPr ctPr ocUs kVUs dcUs pmUs cdUs ctUs ocUr kVUr dcUr pmUr cdUr ctUr ocAk kVAk dcAk pmAk cdAk ctAk ocRs kVRs dcRs pmRs cdRs ctRs ocMa kVMa dcMa pmMa cdMa ctMa ocRo kVRo dcRo pmRo cdRo ctRo ocRws kVRws dcRws pmRws cdRws ctRws ocCls kVCls dcCls pmCls cdCls ctCls ocFo kVFo dcFo pmFo cdFo ctFo ocTo kVTo dcTo pmTo cdTo ctTo ocRwd kVRwd dcRwd pmRwd cdRwd ctRwd ocCwd kVCwd dcCwd pmCwd cdCwd ctCwd ocCl kVCl dcCl pmCl cdCl ctCl ocWo kVWo dcWo pmWo cdWo ctWo ocDu kVDu dcDu pmDu cdDu ctDu ocHo kVHo dcHo pmHo cdHo ctHo ocL kVL dcL pmL cdL ctL ocI kVI dcI pmI cdI ctI ocMi kVMi dcMi pmMi cdMi ctMi ocFi kVFi dcFi pmFi cdFi ctFi ocSt kVSt dcSt pmSt cdSt ctSt ocRw kVRw dcRw pmRw cdRw ctRw ocMr kVMr dcMr pmMr cdMr ctMr ocMc kVMc dcMc pmMc cdMc ctMc ocSpi kVSpi dcSpi pmSpi cdSpi ctSpi ocSrs kVSrs dcSrs pmSrs cdSrs ctSrs ocStk kVStk dcStk pmStk cdStk ctStk ocSro kVSro dcSro pmSro cdSro ctSro ocT : Value} {tkT : Tok} {nT0 : Nat} {tkL tkS : Tok}
    (xSH : PySem.W.nsIn K mainGlobals "SHORT" = some (some (.int 2000 tkS)))
    (xGcd : PySem.W.nsIn K mainGlobals "gcd" = some (some (.builtin "math.gcd")))
    (xLcm : PySem.W.nsIn K mainGlobals "lcm" = some (some (.builtin "math.lcm")))
    (xLet : PySem.W.nsIn K mainGlobals "LETTERS" = some (some (.str "abcd" tkL)))
    (aC : PySem.W.nsIn K mainGlobals "Ratio" = some (some (.ref C)))
    (pgC : PySem.W.plainGet K C Str.empty = true)
    (hdC : PySem.W.hasDictIn K C = true)
    (poC : PySem.W.plainOver K C = true)
    (saC : PySem.W.findIn K (.ref C) "__setattr__" = some (some (.builtin "object.__setattr__")))
    (nCtop : PySem.W.findIn K (.ref C) "top" = some none)
    (nCbottom : PySem.W.findIn K (.ref C) "bottom" = some none)
    (mkC : PySem.W.makesIn K C = true)
    (kcC : PySem.W.keepIn K (.ref C) = true)
    (xaC : PySem.W.findIn K (.ref C) "__class__" = some (some (.builtin "object.__class__")))
    (xmC : PySem.W.mroIn K C (.type "object") = some true)
    (aI : PySem.W.findIn K (.ref C) "__init__" = some (some (.ref fI)))
    (iI : PySem.W.isFn K (.ref fI) = true)
    (lI : K.lookup fI = some ⟨ocI, odI, .func (PySem.W.fnOf "__init__" "Ratio.__init__" (defArgs sInit) (defBody sInit) (defScope sInit) (.ref TT) kVI dcI pmI anI cdI ctI), slI⟩)
    (cI : PySem.W.codeIn K cdI "Ratio.__init__" = true)
    (kI : PySem.W.keepIn K (.ref fI) = true)
    (lT : K.lookup TT = some ⟨ocT, odT, .seq #[.int 1 tkT] nT0, slT⟩)
    (aCM : PySem.W.nsIn K mainGlobals "Machine" = some (some (.ref CM)))
    (pgCM : PySem.W.plainGet K CM Str.empty = true)
    (hdCM : PySem.W.hasDictIn K CM = true)
    (poCM : PySem.W.plainOver K CM = true)
    (saCM : PySem.W.findIn K (.ref CM) "__setattr__" = some (some (.builtin "object.__setattr__")))
    (nCMletters : PySem.W.findIn K (.ref CM) "letters" = some none)
    (nCMstart : PySem.W.findIn K (.ref CM) "start" = some none)
    (nCMsteps : PySem.W.findIn K (.ref CM) "steps" = some none)
    (nCMend : PySem.W.findIn K (.ref CM) "end" = some none)
    (nCM_above : PySem.W.findIn K (.ref CM) "_above" = some none)
    (mkCM : PySem.W.makesIn K CM = true)
    (kcCM : PySem.W.keepIn K (.ref CM) = true)
    (aMi : PySem.W.findIn K (.ref CM) "__init__" = some (some (.ref fMi)))
    (iMi : PySem.W.isFn K (.ref fMi) = true)
    (lMi : K.lookup fMi = some ⟨ocMi, odMi, .func (PySem.W.fnOf "__init__" "Machine.__init__" (defArgs sMi) (defBody sMi) (defScope sMi) .none kVMi dcMi pmMi anMi cdMi ctMi), slMi⟩)
    (cMi : PySem.W.codeIn K cdMi "Machine.__init__" = true)
    (kMi : PySem.W.keepIn K (.ref fMi) = true)
    (aFi : PySem.W.findIn K (.ref CM) "_fits" = some (some (.ref fFi)))
    (iFi : PySem.W.isFn K (.ref fFi) = true)
    (lFi : K.lookup fFi = some ⟨ocFi, odFi, .func (PySem.W.fnOf "_fits" "Machine._fits" (defArgs sFit) (defBody sFit) (defScope sFit) .none kVFi dcFi pmFi anFi cdFi ctFi), slFi⟩)
    (cFi : PySem.W.codeIn K cdFi "Machine._fits" = true)
    (kFi : PySem.W.keepIn K (.ref fFi) = true)
    (aSt : PySem.W.findIn K (.ref CM) "_step_above" = some (some (.ref fSt)))
    (iSt : PySem.W.isFn K (.ref fSt) = true)
    (lSt : K.lookup fSt = some ⟨ocSt, odSt, .func (PySem.W.fnOf "_step_above" "Machine._step_above" (defArgs sSta) (defBody sSta) (defScope sSta) .none kVSt dcSt pmSt anSt cdSt ctSt), slSt⟩)
    (cSt : PySem.W.codeIn K cdSt "Machine._step_above" = true)
    (kSt : PySem.W.keepIn K (.ref fSt) = true)
    (aRw : PySem.W.findIn K (.ref CM) "_row_above" = some (some (.ref fRw)))
    (iRw : PySem.W.isFn K (.ref fRw) = true)
    (lRw : K.lookup fRw = some ⟨ocRw, odRw, .func (PySem.W.fnOf "_row_above" "Machine._row_above" (defArgs sRwa) (defBody sRwa) (defScope sRwa) .none kVRw dcRw pmRw anRw cdRw ctRw), slRw⟩)
    (cRw : PySem.W.codeIn K cdRw "Machine._row_above" = true)
    (kRw : PySem.W.keepIn K (.ref fRw) = true)
    (aMr : PySem.W.findIn K (.ref CM) "row" = some (some (.ref fMr)))
    (iMr : PySem.W.isFn K (.ref fMr) = true)
    (lMr : K.lookup fMr = some ⟨ocMr, odMr, .func (PySem.W.fnOf "row" "Machine.row" (defArgs sRow) (defBody sRow) (defScope sRow) .none kVMr dcMr pmMr anMr cdMr ctMr), slMr⟩)
    (cMr : PySem.W.codeIn K cdMr "Machine.row" = true)
    (kMr : PySem.W.keepIn K (.ref fMr) = true)
    (aMc : PySem.W.findIn K (.ref CM) "column" = some (some (.ref fMc)))
    (iMc : PySem.W.isFn K (.ref fMc) = true)
    (lMc : K.lookup fMc = some ⟨ocMc, odMc, .func (PySem.W.fnOf "column" "Machine.column" (defArgs sCol) (defBody sCol) (defScope sCol) .none kVMc dcMc pmMc anMc cdMc ctMc), slMc⟩)
    (cMc : PySem.W.codeIn K cdMc "Machine.column" = true)
    (kMc : PySem.W.keepIn K (.ref fMc) = true)
    (aCS : PySem.W.nsIn K mainGlobals "Space" = some (some (.ref CS)))
    (pgCS : PySem.W.plainGet K CS Str.empty = true)
    (hdCS : PySem.W.hasDictIn K CS = true)
    (poCS : PySem.W.plainOver K CS = true)
    (saCS : PySem.W.findIn K (.ref CS) "__setattr__" = some (some (.builtin "object.__setattr__")))
    (nCS_by_lead : PySem.W.findIn K (.ref CS) "_by_lead" = some none)
    (mkCS : PySem.W.makesIn K CS = true)
    (kcCS : PySem.W.keepIn K (.ref CS) = true)
    (aSpi : PySem.W.findIn K (.ref CS) "__init__" = some (some (.ref fSpi)))
    (iSpi : PySem.W.isFn K (.ref fSpi) = true)
    (lSpi : K.lookup fSpi = some ⟨ocSpi, odSpi, .func (PySem.W.fnOf "__init__" "Space.__init__" (defArgs sSpI) (defBody sSpI) (defScope sSpI) .none kVSpi dcSpi pmSpi anSpi cdSpi ctSpi), slSpi⟩)
    (cSpi : PySem.W.codeIn K cdSpi "Space.__init__" = true)
    (kSpi : PySem.W.keepIn K (.ref fSpi) = true)
    (aSrs : PySem.W.findIn K (.ref CS) "rest" = some (some (.ref fSrs)))
    (iSrs : PySem.W.isFn K (.ref fSrs) = true)
    (lSrs : K.lookup fSrs = some ⟨ocSrs, odSrs, .func (PySem.W.fnOf "rest" "Space.rest" (defArgs sRest) (defBody sRest) (defScope sRest) .none kVSrs dcSrs pmSrs anSrs cdSrs ctSrs), slSrs⟩)
    (cSrs : PySem.W.codeIn K cdSrs "Space.rest" = true)
    (kSrs : PySem.W.keepIn K (.ref fSrs) = true)
    (aStk : PySem.W.findIn K (.ref CS) "take_in" = some (some (.ref fStk)))
    (iStk : PySem.W.isFn K (.ref fStk) = true)
    (lStk : K.lookup fStk = some ⟨ocStk, odStk, .func (PySem.W.fnOf "take_in" "Space.take_in" (defArgs sTkI) (defBody sTkI) (defScope sTkI) .none kVStk dcStk pmStk anStk cdStk ctStk), slStk⟩)
    (cStk : PySem.W.codeIn K cdStk "Space.take_in" = true)
    (kStk : PySem.W.keepIn K (.ref fStk) = true)
    (aSro : PySem.W.findIn K (.ref CS) "rows" = some (some (.ref fSro)))
    (iSro : PySem.W.isFn K (.ref fSro) = true)
    (lSro : K.lookup fSro = some ⟨ocSro, odSro, .func (PySem.W.fnOf "rows" "Space.rows" (defArgs sRows) (defBody sRows) (defScope sRows) .none kVSro dcSro pmSro anSro cdSro ctSro), slSro⟩)
    (cSro : PySem.W.codeIn K cdSro "Space.rows" = true)
    (kSro : PySem.W.keepIn K (.ref fSro) = true)
    (xn : PySem.W.specialIn K (.builtin "object.__class__") "__get__" = some (some (.builtin "getset_descriptor.__get__")))
    (xt : PySem.W.takesIn K (.builtin "object.__class__") = some true)
    (aCb : PySem.W.nsIn K mainGlobals "common_bottom" = some (some (.ref fCb)))
    (lCb : K.lookup fCb = some ⟨ocCb, odCb, .func (PySem.W.fnOf "common_bottom" "common_bottom" (defArgs sCbm) (defBody sCbm) (defScope sCbm) .none kVCb dcCb pmCb anCb cdCb ctCb), slCb⟩)
    (cCb : PySem.W.codeIn K cdCb "common_bottom" = true)
    (kCb : PySem.W.keepIn K (.ref fCb) = true)
    (aTa : PySem.W.nsIn K mainGlobals "tops_above" = some (some (.ref fTa)))
    (lTa : K.lookup fTa = some ⟨ocTa, odTa, .func (PySem.W.fnOf "tops_above" "tops_above" (defArgs sTa) (defBody sTa) (defScope sTa) .none kVTa dcTa pmTa anTa cdTa ctTa), slTa⟩)
    (cTa : PySem.W.codeIn K cdTa "tops_above" = true)
    (kTa : PySem.W.keepIn K (.ref fTa) = true)
    (aRa : PySem.W.nsIn K mainGlobals "row_above" = some (some (.ref fRa)))
    (lRa : K.lookup fRa = some ⟨ocRa, odRa, .func (PySem.W.fnOf "row_above" "row_above" (defArgs sRa) (defBody sRa) (defScope sRa) .none kVRa dcRa pmRa anRa cdRa ctRa), slRa⟩)
    (cRa : PySem.W.codeIn K cdRa "row_above" = true)
    (kRa : PySem.W.keepIn K (.ref fRa) = true)
    (aTb : PySem.W.nsIn K mainGlobals "table_above" = some (some (.ref fTb)))
    (lTb : K.lookup fTb = some ⟨ocTb, odTb, .func (PySem.W.fnOf "table_above" "table_above" (defArgs sTb) (defBody sTb) (defScope sTb) .none kVTb dcTb pmTb anTb cdTb ctTb), slTb⟩)
    (cTb : PySem.W.codeIn K cdTb "table_above" = true)
    (kTb : PySem.W.keepIn K (.ref fTb) = true)
    (aRt : PySem.W.nsIn K mainGlobals "ratios" = some (some (.ref fRt)))
    (lRt : K.lookup fRt = some ⟨ocRt, odRt, .func (PySem.W.fnOf "ratios" "ratios" (defArgs sRts) (defBody sRts) (defScope sRts) .none kVRt dcRt pmRt anRt cdRt ctRt), slRt⟩)
    (cRt : PySem.W.codeIn K cdRt "ratios" = true)
    (kRt : PySem.W.keepIn K (.ref fRt) = true)
    (aWp : PySem.W.nsIn K mainGlobals "whole_product" = some (some (.ref fWp)))
    (lWp : K.lookup fWp = some ⟨ocWp, odWp, .func (PySem.W.fnOf "whole_product" "whole_product" (defArgs sWp) (defBody sWp) (defScope sWp) .none kVWp dcWp pmWp anWp cdWp ctWp), slWp⟩)
    (cWp : PySem.W.codeIn K cdWp "whole_product" = true)
    (kWp : PySem.W.keepIn K (.ref fWp) = true)
    (aWr : PySem.W.nsIn K mainGlobals "whole_row_times" = some (some (.ref fWr)))
    (lWr : K.lookup fWr = some ⟨ocWr, odWr, .func (PySem.W.fnOf "whole_row_times" "whole_row_times" (defArgs sWr) (defBody sWr) (defScope sWr) .none kVWr dcWr pmWr anWr cdWr ctWr), slWr⟩)
    (cWr : PySem.W.codeIn K cdWr "whole_row_times" = true)
    (kWr : PySem.W.keepIn K (.ref fWr) = true)
    (aSf : PySem.W.nsIn K mainGlobals "shared_factor" = some (some (.ref fSf)))
    (lSf : K.lookup fSf = some ⟨ocSf, odSf, .func (PySem.W.fnOf "shared_factor" "shared_factor" (defArgs sShf) (defBody sShf) (defScope sShf) .none kVSf dcSf pmSf anSf cdSf ctSf), slSf⟩)
    (cSf : PySem.W.codeIn K cdSf "shared_factor" = true)
    (kSf : PySem.W.keepIn K (.ref fSf) = true)
    (aSh : PySem.W.nsIn K mainGlobals "shortened" = some (some (.ref fSh)))
    (lSh : K.lookup fSh = some ⟨ocSh, odSh, .func (PySem.W.fnOf "shortened" "shortened" (defArgs sShd) (defBody sShd) (defScope sShd) .none kVSh dcSh pmSh anSh cdSh ctSh), slSh⟩)
    (cSh : PySem.W.codeIn K cdSh "shortened" = true)
    (kSh : PySem.W.keepIn K (.ref fSh) = true)
    (aTh : PySem.W.nsIn K mainGlobals "row_through" = some (some (.ref fTh)))
    (lTh : K.lookup fTh = some ⟨ocTh, odTh, .func (PySem.W.fnOf "row_through" "row_through" (defArgs sRth) (defBody sRth) (defScope sRth) .none kVTh dcTh pmTh anTh cdTh ctTh), slTh⟩)
    (cTh : PySem.W.codeIn K cdTh "row_through" = true)
    (kTh : PySem.W.keepIn K (.ref fTh) = true)
    (aAl : PySem.W.nsIn K mainGlobals "alphabet" = some (some (.ref fAl)))
    (lAl : K.lookup fAl = some ⟨ocAl, odAl, .func (PySem.W.fnOf "alphabet" "alphabet" (defArgs sAlpha) (defBody sAlpha) (defScope sAlpha) .none kVAl dcAl pmAl anAl cdAl ctAl), slAl⟩)
    (cAl : PySem.W.codeIn K cdAl "alphabet" = true)
    (kAl : PySem.W.keepIn K (.ref fAl) = true)
    (aCw : PySem.W.nsIn K mainGlobals "check_word" = some (some (.ref fCw)))
    (lCw : K.lookup fCw = some ⟨ocCw, odCw, .func (PySem.W.fnOf "check_word" "check_word" (defArgs sCw) (defBody sCw) (defScope sCw) .none kVCw dcCw pmCw anCw cdCw ctCw), slCw⟩)
    (cCw : PySem.W.codeIn K cdCw "check_word" = true)
    (kCw : PySem.W.keepIn K (.ref fCw) = true)
    (aWc : PySem.W.nsIn K mainGlobals "whole_column_times" = some (some (.ref fWc)))
    (lWc : K.lookup fWc = some ⟨ocWc, odWc, .func (PySem.W.fnOf "whole_column_times" "whole_column_times" (defArgs sWc) (defBody sWc) (defScope sWc) .none kVWc dcWc pmWc anWc cdWc ctWc), slWc⟩)
    (cWc : PySem.W.codeIn K cdWc "whole_column_times" = true)
    (kWc : PySem.W.keepIn K (.ref fWc) = true)
    (aLp : PySem.W.nsIn K mainGlobals "leading_place" = some (some (.ref fLp)))
    (lLp : K.lookup fLp = some ⟨ocLp, odLp, .func (PySem.W.fnOf "leading_place" "leading_place" (defArgs sLp) (defBody sLp) (defScope sLp) .none kVLp dcLp pmLp anLp cdLp ctLp), slLp⟩)
    (cLp : PySem.W.codeIn K cdLp "leading_place" = true)
    (kLp : PySem.W.keepIn K (.ref fLp) = true)
    (aWs : PySem.W.nsIn K mainGlobals "_without_shared" = some (some (.ref fWs)))
    (lWs : K.lookup fWs = some ⟨ocWs, odWs, .func (PySem.W.fnOf "_without_shared" "_without_shared" (defArgs sWs) (defBody sWs) (defScope sWs) .none kVWs dcWs pmWs anWs cdWs ctWs), slWs⟩)
    (cWs : PySem.W.codeIn K cdWs "_without_shared" = true)
    (kWs : PySem.W.keepIn K (.ref fWs) = true)
    (aFr : PySem.W.nsIn K mainGlobals "_freed" = some (some (.ref fFr)))
    (lFr : K.lookup fFr = some ⟨ocFr, odFr, .func (PySem.W.fnOf "_freed" "_freed" (defArgs sFrd) (defBody sFrd) (defScope sFrd) .none kVFr dcFr pmFr anFr cdFr ctFr), slFr⟩)
    (cFr : PySem.W.codeIn K cdFr "_freed" = true)
    (kFr : PySem.W.keepIn K (.ref fFr) = true)
    (aIs : PySem.W.nsIn K mainGlobals "is_corner" = some (some (.ref fIs)))
    (lIs : K.lookup fIs = some ⟨ocIs, odIs, .func (PySem.W.fnOf "is_corner" "is_corner" (defArgs sIs) (defBody sIs) (defScope sIs) .none kVIs dcIs pmIs anIs cdIs ctIs), slIs⟩)
    (cIs : PySem.W.codeIn K cdIs "is_corner" = true)
    (kIs : PySem.W.keepIn K (.ref fIs) = true)
    (aTp : PySem.W.nsIn K mainGlobals "_law_tape" = some (some (.ref fTp)))
    (lTp : K.lookup fTp = some ⟨ocTp, odTp, .func (PySem.W.fnOf "_law_tape" "_law_tape" (defArgs sTape) (defBody sTape) (defScope sTape) .none kVTp dcTp pmTp anTp cdTp ctTp), slTp⟩)
    (cTp : PySem.W.codeIn K cdTp "_law_tape" = true)
    (kTp : PySem.W.keepIn K (.ref fTp) = true)
    (aNx : PySem.W.nsIn K mainGlobals "_law_next" = some (some (.ref fNx)))
    (lNx : K.lookup fNx = some ⟨ocNx, odNx, .func (PySem.W.fnOf "_law_next" "_law_next" (defArgs sNext) (defBody sNext) (defScope sNext) .none kVNx dcNx pmNx anNx cdNx ctNx), slNx⟩)
    (cNx : PySem.W.codeIn K cdNx "_law_next" = true)
    (kNx : PySem.W.keepIn K (.ref fNx) = true)
    (aGr : PySem.W.nsIn K mainGlobals "_law_great" = some (some (.ref fGr)))
    (lGr : K.lookup fGr = some ⟨ocGr, odGr, .func (PySem.W.fnOf "_law_great" "_law_great" (defArgs sGreat) (defBody sGreat) (defScope sGreat) .none kVGr dcGr pmGr anGr cdGr ctGr), slGr⟩)
    (cGr : PySem.W.codeIn K cdGr "_law_great" = true)
    (kGr : PySem.W.keepIn K (.ref fGr) = true)
    (aEn : PySem.W.nsIn K mainGlobals "_law_entry" = some (some (.ref fEn)))
    (lEn : K.lookup fEn = some ⟨ocEn, odEn, .func (PySem.W.fnOf "_law_entry" "_law_entry" (defArgs sEntry) (defBody sEntry) (defScope sEntry) .none kVEn dcEn pmEn anEn cdEn ctEn), slEn⟩)
    (cEn : PySem.W.codeIn K cdEn "_law_entry" = true)
    (kEn : PySem.W.keepIn K (.ref fEn) = true)
    (aLsh : PySem.W.nsIn K mainGlobals "_law_shared" = some (some (.ref fLsh)))
    (lLsh : K.lookup fLsh = some ⟨ocLsh, odLsh, .func (PySem.W.fnOf "_law_shared" "_law_shared" (defArgs sShared) (defBody sShared) (defScope sShared) .none kVLsh dcLsh pmLsh anLsh cdLsh ctLsh), slLsh⟩)
    (cLsh : PySem.W.codeIn K cdLsh "_law_shared" = true)
    (kLsh : PySem.W.keepIn K (.ref fLsh) = true)
    (aLo : PySem.W.nsIn K mainGlobals "_law_lowest" = some (some (.ref fLo)))
    (lLo : K.lookup fLo = some ⟨ocLo, odLo, .func (PySem.W.fnOf "_law_lowest" "_law_lowest" (defArgs sLowest) (defBody sLowest) (defScope sLowest) .none kVLo dcLo pmLo anLo cdLo ctLo), slLo⟩)
    (cLo : PySem.W.codeIn K cdLo "_law_lowest" = true)
    (kLo : PySem.W.keepIn K (.ref fLo) = true)
    (aPl : PySem.W.nsIn K mainGlobals "_law_plus" = some (some (.ref fPl)))
    (lPl : K.lookup fPl = some ⟨ocPl, odPl, .func (PySem.W.fnOf "_law_plus" "_law_plus" (defArgs sPlus) (defBody sPlus) (defScope sPlus) .none kVPl dcPl pmPl anPl cdPl ctPl), slPl⟩)
    (cPl : PySem.W.codeIn K cdPl "_law_plus" = true)
    (kPl : PySem.W.keepIn K (.ref fPl) = true)
    (aBy : PySem.W.nsIn K mainGlobals "_law_by" = some (some (.ref fBy)))
    (lBy : K.lookup fBy = some ⟨ocBy, odBy, .func (PySem.W.fnOf "_law_by" "_law_by" (defArgs sBy) (defBody sBy) (defScope sBy) .none kVBy dcBy pmBy anBy cdBy ctBy), slBy⟩)
    (cBy : PySem.W.codeIn K cdBy "_law_by" = true)
    (kBy : PySem.W.keepIn K (.ref fBy) = true)
    (aDt : PySem.W.nsIn K mainGlobals "_law_dot" = some (some (.ref fDt)))
    (lDt : K.lookup fDt = some ⟨ocDt, odDt, .func (PySem.W.fnOf "_law_dot" "_law_dot" (defArgs sDt) (defBody sDt) (defScope sDt) .none kVDt dcDt pmDt anDt cdDt ctDt), slDt⟩)
    (cDt : PySem.W.codeIn K cdDt "_law_dot" = true)
    (kDt : PySem.W.keepIn K (.ref fDt) = true)
    (aAh : PySem.W.nsIn K mainGlobals "_law_ahead" = some (some (.ref fAh)))
    (lAh : K.lookup fAh = some ⟨ocAh, odAh, .func (PySem.W.fnOf "_law_ahead" "_law_ahead" (defArgs sAh) (defBody sAh) (defScope sAh) .none kVAh dcAh pmAh anAh cdAh ctAh), slAh⟩)
    (cAh : PySem.W.codeIn K cdAh "_law_ahead" = true)
    (kAh : PySem.W.keepIn K (.ref fAh) = true)
    (aBh : PySem.W.nsIn K mainGlobals "_law_behind" = some (some (.ref fBh)))
    (lBh : K.lookup fBh = some ⟨ocBh, odBh, .func (PySem.W.fnOf "_law_behind" "_law_behind" (defArgs sBh) (defBody sBh) (defScope sBh) .none kVBh dcBh pmBh anBh cdBh ctBh), slBh⟩)
    (cBh : PySem.W.codeIn K cdBh "_law_behind" = true)
    (kBh : PySem.W.keepIn K (.ref fBh) = true)
    (aLs : PySem.W.nsIn K mainGlobals "_law_step" = some (some (.ref fLs)))
    (lLs : K.lookup fLs = some ⟨ocLs, odLs, .func (PySem.W.fnOf "_law_step" "_law_step" (defArgs sStepL) (defBody sStepL) (defScope sStepL) .none kVLs dcLs pmLs anLs cdLs ctLs), slLs⟩)
    (cLs : PySem.W.codeIn K cdLs "_law_step" = true)
    (kLs : PySem.W.keepIn K (.ref fLs) = true)
    (aBo : PySem.W.nsIn K mainGlobals "_law_bottoms" = some (some (.ref fBo)))
    (lBo : K.lookup fBo = some ⟨ocBo, odBo, .func (PySem.W.fnOf "_law_bottoms" "_law_bottoms" (defArgs sBottoms) (defBody sBottoms) (defScope sBottoms) .none kVBo dcBo pmBo anBo cdBo ctBo), slBo⟩)
    (cBo : PySem.W.codeIn K cdBo "_law_bottoms" = true)
    (kBo : PySem.W.keepIn K (.ref fBo) = true)
    (aPn : PySem.W.nsIn K mainGlobals "_law_plain" = some (some (.ref fPn)))
    (lPn : K.lookup fPn = some ⟨ocPn, odPn, .func (PySem.W.fnOf "_law_plain" "_law_plain" (defArgs sPlain) (defBody sPlain) (defScope sPlain) .none kVPn dcPn pmPn anPn cdPn ctPn), slPn⟩)
    (cPn : PySem.W.codeIn K cdPn "_law_plain" = true)
    (kPn : PySem.W.keepIn K (.ref fPn) = true)
    (aOv : PySem.W.nsIn K mainGlobals "_law_over" = some (some (.ref fOv)))
    (lOv : K.lookup fOv = some ⟨ocOv, odOv, .func (PySem.W.fnOf "_law_over" "_law_over" (defArgs sOver) (defBody sOver) (defScope sOver) .none kVOv dcOv pmOv anOv cdOv ctOv), slOv⟩)
    (cOv : PySem.W.codeIn K cdOv "_law_over" = true)
    (kOv : PySem.W.keepIn K (.ref fOv) = true)
    (aPt : PySem.W.nsIn K mainGlobals "_law_parts" = some (some (.ref fPt)))
    (lPt : K.lookup fPt = some ⟨ocPt, odPt, .func (PySem.W.fnOf "_law_parts" "_law_parts" (defArgs sParts) (defBody sParts) (defScope sParts) .none kVPt dcPt pmPt anPt cdPt ctPt), slPt⟩)
    (cPt : PySem.W.codeIn K cdPt "_law_parts" = true)
    (kPt : PySem.W.keepIn K (.ref fPt) = true)
    (aDe : PySem.W.nsIn K mainGlobals "_law_deed" = some (some (.ref fDe)))
    (lDe : K.lookup fDe = some ⟨ocDe, odDe, .func (PySem.W.fnOf "_law_deed" "_law_deed" (defArgs sDeed) (defBody sDeed) (defScope sDeed) .none kVDe dcDe pmDe anDe cdDe ctDe), slDe⟩)
    (cDe : PySem.W.codeIn K cdDe "_law_deed" = true)
    (kDe : PySem.W.keepIn K (.ref fDe) = true)
    (aRi : PySem.W.nsIn K mainGlobals "_law_right" = some (some (.ref fRi)))
    (lRi : K.lookup fRi = some ⟨ocRi, odRi, .func (PySem.W.fnOf "_law_right" "_law_right" (defArgs sRight) (defBody sRight) (defScope sRight) .none kVRi dcRi pmRi anRi cdRi ctRi), slRi⟩)
    (cRi : PySem.W.codeIn K cdRi "_law_right" = true)
    (kRi : PySem.W.keepIn K (.ref fRi) = true)
    (aLe : PySem.W.nsIn K mainGlobals "_law_left" = some (some (.ref fLe)))
    (lLe : K.lookup fLe = some ⟨ocLe, odLe, .func (PySem.W.fnOf "_law_left" "_law_left" (defArgs sLeft) (defBody sLeft) (defScope sLeft) .none kVLe dcLe pmLe anLe cdLe ctLe), slLe⟩)
    (cLe : PySem.W.codeIn K cdLe "_law_left" = true)
    (kLe : PySem.W.keepIn K (.ref fLe) = true)
    (aCh : PySem.W.nsIn K mainGlobals "_law_change" = some (some (.ref fCh)))
    (lCh : K.lookup fCh = some ⟨ocCh, odCh, .func (PySem.W.fnOf "_law_change" "_law_change" (defArgs sChange) (defBody sChange) (defScope sChange) .none kVCh dcCh pmCh anCh cdCh ctCh), slCh⟩)
    (cCh : PySem.W.codeIn K cdCh "_law_change" = true)
    (kCh : PySem.W.keepIn K (.ref fCh) = true)
    (aPr : PySem.W.nsIn K mainGlobals "_law_pair" = some (some (.ref fPr)))
    (lPr : K.lookup fPr = some ⟨ocPr, odPr, .func (PySem.W.fnOf "_law_pair" "_law_pair" (defArgs sPairL) (defBody sPairL) (defScope sPairL) .none kVPr dcPr pmPr anPr cdPr ctPr), slPr⟩)
    (cPr : PySem.W.codeIn K cdPr "_law_pair" = true)
    (kPr : PySem.W.keepIn K (.ref fPr) = true)
    (aUs : PySem.W.nsIn K mainGlobals "_law_unseen" = some (some (.ref fUs)))
    (lUs : K.lookup fUs = some ⟨ocUs, odUs, .func (PySem.W.fnOf "_law_unseen" "_law_unseen" (defArgs sUnseen) (defBody sUnseen) (defScope sUnseen) .none kVUs dcUs pmUs anUs cdUs ctUs), slUs⟩)
    (cUs : PySem.W.codeIn K cdUs "_law_unseen" = true)
    (kUs : PySem.W.keepIn K (.ref fUs) = true)
    (aUr : PySem.W.nsIn K mainGlobals "_law_unreached" = some (some (.ref fUr)))
    (lUr : K.lookup fUr = some ⟨ocUr, odUr, .func (PySem.W.fnOf "_law_unreached" "_law_unreached" (defArgs sUnreached) (defBody sUnreached) (defScope sUnreached) .none kVUr dcUr pmUr anUr cdUr ctUr), slUr⟩)
    (cUr : PySem.W.codeIn K cdUr "_law_unreached" = true)
    (kUr : PySem.W.keepIn K (.ref fUr) = true)
    (aAk : PySem.W.nsIn K mainGlobals "_law_alike" = some (some (.ref fAk)))
    (lAk : K.lookup fAk = some ⟨ocAk, odAk, .func (PySem.W.fnOf "_law_alike" "_law_alike" (defArgs sAlk) (defBody sAlk) (defScope sAlk) .none kVAk dcAk pmAk anAk cdAk ctAk), slAk⟩)
    (cAk : PySem.W.codeIn K cdAk "_law_alike" = true)
    (kAk : PySem.W.keepIn K (.ref fAk) = true)
    (aRs : PySem.W.nsIn K mainGlobals "_law_ratios" = some (some (.ref fRs)))
    (lRs : K.lookup fRs = some ⟨ocRs, odRs, .func (PySem.W.fnOf "_law_ratios" "_law_ratios" (defArgs sRats) (defBody sRats) (defScope sRats) .none kVRs dcRs pmRs anRs cdRs ctRs), slRs⟩)
    (cRs : PySem.W.codeIn K cdRs "_law_ratios" = true)
    (kRs : PySem.W.keepIn K (.ref fRs) = true)
    (aMa : PySem.W.nsIn K mainGlobals "_law_machine" = some (some (.ref fMa)))
    (lMa : K.lookup fMa = some ⟨ocMa, odMa, .func (PySem.W.fnOf "_law_machine" "_law_machine" (defArgs sMakeM) (defBody sMakeM) (defScope sMakeM) .none kVMa dcMa pmMa anMa cdMa ctMa), slMa⟩)
    (cMa : PySem.W.codeIn K cdMa "_law_machine" = true)
    (kMa : PySem.W.keepIn K (.ref fMa) = true)
    (aRo : PySem.W.nsIn K mainGlobals "_law_row" = some (some (.ref fRo)))
    (lRo : K.lookup fRo = some ⟨ocRo, odRo, .func (PySem.W.fnOf "_law_row" "_law_row" (defArgs sRo) (defBody sRo) (defScope sRo) .none kVRo dcRo pmRo anRo cdRo ctRo), slRo⟩)
    (cRo : PySem.W.codeIn K cdRo "_law_row" = true)
    (kRo : PySem.W.keepIn K (.ref fRo) = true)
    (aRws : PySem.W.nsIn K mainGlobals "_law_rows" = some (some (.ref fRws)))
    (lRws : K.lookup fRws = some ⟨ocRws, odRws, .func (PySem.W.fnOf "_law_rows" "_law_rows" (defArgs sRws) (defBody sRws) (defScope sRws) .none kVRws dcRws pmRws anRws cdRws ctRws), slRws⟩)
    (cRws : PySem.W.codeIn K cdRws "_law_rows" = true)
    (kRws : PySem.W.keepIn K (.ref fRws) = true)
    (aCls : PySem.W.nsIn K mainGlobals "_law_columns" = some (some (.ref fCls)))
    (lCls : K.lookup fCls = some ⟨ocCls, odCls, .func (PySem.W.fnOf "_law_columns" "_law_columns" (defArgs sCls) (defBody sCls) (defScope sCls) .none kVCls dcCls pmCls anCls cdCls ctCls), slCls⟩)
    (cCls : PySem.W.codeIn K cdCls "_law_columns" = true)
    (kCls : PySem.W.keepIn K (.ref fCls) = true)
    (aFo : PySem.W.nsIn K mainGlobals "_law_first" = some (some (.ref fFo)))
    (lFo : K.lookup fFo = some ⟨ocFo, odFo, .func (PySem.W.fnOf "_law_first" "_law_first" (defArgs sFi1) (defBody sFi1) (defScope sFi1) .none kVFo dcFo pmFo anFo cdFo ctFo), slFo⟩)
    (cFo : PySem.W.codeIn K cdFo "_law_first" = true)
    (kFo : PySem.W.keepIn K (.ref fFo) = true)
    (aTo : PySem.W.nsIn K mainGlobals "_law_told" = some (some (.ref fTo)))
    (lTo : K.lookup fTo = some ⟨ocTo, odTo, .func (PySem.W.fnOf "_law_told" "_law_told" (defArgs sTo) (defBody sTo) (defScope sTo) .none kVTo dcTo pmTo anTo cdTo ctTo), slTo⟩)
    (cTo : PySem.W.codeIn K cdTo "_law_told" = true)
    (kTo : PySem.W.keepIn K (.ref fTo) = true)
    (aRwd : PySem.W.nsIn K mainGlobals "_law_row_words" = some (some (.ref fRwd)))
    (lRwd : K.lookup fRwd = some ⟨ocRwd, odRwd, .func (PySem.W.fnOf "_law_row_words" "_law_row_words" (defArgs sRwd) (defBody sRwd) (defScope sRwd) .none kVRwd dcRwd pmRwd anRwd cdRwd ctRwd), slRwd⟩)
    (cRwd : PySem.W.codeIn K cdRwd "_law_row_words" = true)
    (kRwd : PySem.W.keepIn K (.ref fRwd) = true)
    (aCwd : PySem.W.nsIn K mainGlobals "_law_column_words" = some (some (.ref fCwd)))
    (lCwd : K.lookup fCwd = some ⟨ocCwd, odCwd, .func (PySem.W.fnOf "_law_column_words" "_law_column_words" (defArgs sCwd) (defBody sCwd) (defScope sCwd) .none kVCwd dcCwd pmCwd anCwd cdCwd ctCwd), slCwd⟩)
    (cCwd : PySem.W.codeIn K cdCwd "_law_column_words" = true)
    (kCwd : PySem.W.keepIn K (.ref fCwd) = true)
    (aCl : PySem.W.nsIn K mainGlobals "_law_column" = some (some (.ref fCl)))
    (lCl : K.lookup fCl = some ⟨ocCl, odCl, .func (PySem.W.fnOf "_law_column" "_law_column" (defArgs sCl) (defBody sCl) (defScope sCl) .none kVCl dcCl pmCl anCl cdCl ctCl), slCl⟩)
    (cCl : PySem.W.codeIn K cdCl "_law_column" = true)
    (kCl : PySem.W.keepIn K (.ref fCl) = true)
    (aWo : PySem.W.nsIn K mainGlobals "_law_word" = some (some (.ref fWo)))
    (lWo : K.lookup fWo = some ⟨ocWo, odWo, .func (PySem.W.fnOf "_law_word" "_law_word" (defArgs sWo) (defBody sWo) (defScope sWo) .none kVWo dcWo pmWo anWo cdWo ctWo), slWo⟩)
    (cWo : PySem.W.codeIn K cdWo "_law_word" = true)
    (kWo : PySem.W.keepIn K (.ref fWo) = true)
    (aDu : PySem.W.nsIn K mainGlobals "_law_due" = some (some (.ref fDu)))
    (lDu : K.lookup fDu = some ⟨ocDu, odDu, .func (PySem.W.fnOf "_law_due" "_law_due" (defArgs sDu) (defBody sDu) (defScope sDu) .none kVDu dcDu pmDu anDu cdDu ctDu), slDu⟩)
    (cDu : PySem.W.codeIn K cdDu "_law_due" = true)
    (kDu : PySem.W.keepIn K (.ref fDu) = true)
    (aHo : PySem.W.nsIn K mainGlobals "_law_holds" = some (some (.ref fHo)))
    (lHo : K.lookup fHo = some ⟨ocHo, odHo, .func (PySem.W.fnOf "_law_holds" "_law_holds" (defArgs sHolds) (defBody sHolds) (defScope sHolds) .none kVHo dcHo pmHo anHo cdHo ctHo), slHo⟩)
    (cHo : PySem.W.codeIn K cdHo "_law_holds" = true)
    (kHo : PySem.W.keepIn K (.ref fHo) = true)
    (aL : PySem.W.nsIn K mainGlobals "law" = some (some (.ref fL)))
    (lL : K.lookup fL = some ⟨ocL, odL, .func (PySem.W.fnOf "law" "law" (defArgs sLaw) (defBody sLaw) (defScope sLaw) .none kVL dcL pmL anL cdL ctL), slL⟩)
    (cL : PySem.W.codeIn K cdL "law" = true)
    (kL : PySem.W.keepIn K (.ref fL) = true)
    (z_abs : PySem.W.nsIn K mainGlobals "abs" = some none)
    (z_len : PySem.W.nsIn K mainGlobals "len" = some none)
    (z_int : PySem.W.nsIn K mainGlobals "int" = some none)
    (z_max : PySem.W.nsIn K mainGlobals "max" = some none)
    (z_range : PySem.W.nsIn K mainGlobals "range" = some none)
    (z_isinstance : PySem.W.nsIn K mainGlobals "isinstance" = some none)
    (z_bool : PySem.W.nsIn K mainGlobals "bool" = some none)
    (z_zip : PySem.W.nsIn K mainGlobals "zip" = some none)
    (z_tuple : PySem.W.nsIn K mainGlobals "tuple" = some none)
    (z_list : PySem.W.nsIn K mainGlobals "list" = some none)
    (z_sum : PySem.W.nsIn K mainGlobals "sum" = some none)
    (z_all : PySem.W.nsIn K mainGlobals "all" = some none)
    (z_reversed : PySem.W.nsIn K mainGlobals "reversed" = some none)
    (z_enumerate : PySem.W.nsIn K mainGlobals "enumerate" = some none)
    (z_sorted : PySem.W.nsIn K mainGlobals "sorted" = some none)
    : ∃ fd : FuncData, (∀ (s : Shared) (v : Value), BindsTo s fd ⟨[v], []⟩ [("script", v)]) ∧ ∀ base : Heap, K.In base → base.Ns mainGlobals mg → base.NoSeer → FnOk l.prog w K mg base CX0 40 fa fd ["script"] (spLaw K) := by
  have e := hfa.symm.trans (PySem.W.mg_of X G aL)
  cases e
  have T : TxtL mg := ⟨PySem.W.mg_none_of X G z_abs, PySem.W.mg_none_of X G z_len, PySem.W.mg_none_of X G z_int, PySem.W.mg_none_of X G z_max, PySem.W.mg_none_of X G z_range, PySem.W.mg_none_of X G z_isinstance, PySem.W.mg_none_of X G z_bool⟩
  have xeC : PySem.W.kitOne K (.ref C) (.ref C) = some true := by
    unfold PySem.W.kitOne
    rw [if_pos (beq_self_eq_true _)]
  have icC : C8.InsC K C := ⟨⟨pgC, hdC, poC, saC⟩, xaC, xn, xt, xmC, xeC⟩
  obtain ⟨fdI, FI⟩ : ∃ fd, FunD K "__init__" "Ratio.__init__" (defArgs sInit) (defBody sInit) (defScope sInit) [.int 1] [] fI fd := ⟨_, ⟨ocI, odI, .ref TT, kVI, dcI, pmI, anI, cdI, ctI, slI, rfl, lI, cI, .inr ⟨(fun z => nomatch z), TT, _, [.int 1 tkT], nT0, rfl, lT, rfl, .cons ⟨tkT, rfl⟩ .nil⟩, .inl rfl⟩, kI⟩
  have bI : Binds K fdI ["self", "top", "bottom"] [] := by
    obtain ⟨ds, v, b⟩ := FI.binds1 (ps := ["self", "top", "bottom"]) 3 1 (fun z => nomatch z) rfl fun T kV doc pm an cdv ct us its hu hi => match us, its, hu, hi with | [_, _, _], [_], _, _ => ⟨_, rfl, rfl⟩
    cases v
    exact b
  have bI1 : ∃ ds, Vals [V.int 1] ds ∧ Binds K fdI ["self", "top", "bottom"] ds := FI.binds1 (ps := ["self", "top", "bottom"]) 2 0 (fun z => nomatch z) rfl fun T kV doc pm an cdv ct us its hu hi => match us, its, hu, hi with | [_, _], [_], _, _ => ⟨_, rfl, rfl⟩
  have FMi := fun_mk (st := sMi) lMi cMi kMi
  have bMi := FMi.binds (ps := ["self", "letters", "start", "steps", "end"]) fun _ _ _ _ _ _ us hl => match us, hl with | [_, _, _, _, _], _ => rfl
  have FFi := fun_mk (st := sFit) lFi cFi kFi
  have bFi := FFi.binds (ps := ["self"]) fun _ _ _ _ _ _ us hl => match us, hl with | [_], _ => rfl
  have FSt := fun_mk (st := sSta) lSt cSt kSt
  have bSt := FSt.binds (ps := ["self", "letter"]) fun _ _ _ _ _ _ us hl => match us, hl with | [_, _], _ => rfl
  have FRw := fun_mk (st := sRwa) lRw cRw kRw
  have bRw := FRw.binds (ps := ["self", "word"]) fun _ _ _ _ _ _ us hl => match us, hl with | [_, _], _ => rfl
  have FMr := fun_mk (st := sRow) lMr cMr kMr
  have bMr := FMr.binds (ps := ["self", "word"]) fun _ _ _ _ _ _ us hl => match us, hl with | [_, _], _ => rfl
  have FMc := fun_mk (st := sCol) lMc cMc kMc
  have bMc := FMc.binds (ps := ["self", "word"]) fun _ _ _ _ _ _ us hl => match us, hl with | [_, _], _ => rfl
  have FSpi := fun_mk (st := sSpI) lSpi cSpi kSpi
  have bSpi := FSpi.binds (ps := ["self"]) fun _ _ _ _ _ _ us hl => match us, hl with | [_], _ => rfl
  have FSrs := fun_mk (st := sRest) lSrs cSrs kSrs
  have bSrs := FSrs.binds (ps := ["self", "row"]) fun _ _ _ _ _ _ us hl => match us, hl with | [_, _], _ => rfl
  have FStk := fun_mk (st := sTkI) lStk cStk kStk
  have bStk := FStk.binds (ps := ["self", "row"]) fun _ _ _ _ _ _ us hl => match us, hl with | [_, _], _ => rfl
  have FSro := fun_mk (st := sRows) lSro cSro kSro
  have bSro := FSro.binds (ps := ["self"]) fun _ _ _ _ _ _ us hl => match us, hl with | [_], _ => rfl
  have FCb := fun_mk (st := sCbm) lCb cCb kCb
  have bCb := FCb.binds (ps := ["row"]) fun _ _ _ _ _ _ us hl => match us, hl with | [_], _ => rfl
  have mCb := PySem.W.mg_of X G aCb
  have FTa := fun_mk (st := sTa) lTa cTa kTa
  have bTa := FTa.binds (ps := ["row", "bottom"]) fun _ _ _ _ _ _ us hl => match us, hl with | [_, _], _ => rfl
  have mTa := PySem.W.mg_of X G aTa
  have FRa := fun_mk (st := sRa) lRa cRa kRa
  have bRa := FRa.binds (ps := ["row"]) fun _ _ _ _ _ _ us hl => match us, hl with | [_], _ => rfl
  have mRa := PySem.W.mg_of X G aRa
  have FTb := fun_mk (st := sTb) lTb cTb kTb
  have bTb := FTb.binds (ps := ["table"]) fun _ _ _ _ _ _ us hl => match us, hl with | [_], _ => rfl
  have mTb := PySem.W.mg_of X G aTb
  have FRt := fun_mk (st := sRts) lRt cRt kRt
  have bRt := FRt.binds (ps := ["tops", "bottom"]) fun _ _ _ _ _ _ us hl => match us, hl with | [_, _], _ => rfl
  have mRt := PySem.W.mg_of X G aRt
  have FWp := fun_mk (st := sWp) lWp cWp kWp
  have bWp := FWp.binds (ps := ["one", "other"]) fun _ _ _ _ _ _ us hl => match us, hl with | [_, _], _ => rfl
  have mWp := PySem.W.mg_of X G aWp
  have FWr := fun_mk (st := sWr) lWr cWr kWr
  have bWr := FWr.binds (ps := ["row", "square"]) fun _ _ _ _ _ _ us hl => match us, hl with | [_, _], _ => rfl
  have mWr := PySem.W.mg_of X G aWr
  have FSf := fun_mk (st := sShf) lSf cSf kSf
  have bSf := FSf.binds (ps := ["row"]) fun _ _ _ _ _ _ us hl => match us, hl with | [_], _ => rfl
  have mSf := PySem.W.mg_of X G aSf
  have FSh := fun_mk (st := sShd) lSh cSh kSh
  have bSh := FSh.binds (ps := ["tops", "bottom"]) fun _ _ _ _ _ _ us hl => match us, hl with | [_, _], _ => rfl
  have mSh := PySem.W.mg_of X G aSh
  have FTh := fun_mk (st := sRth) lTh cTh kTh
  have bTh := FTh.binds (ps := ["tops", "bottom", "steps", "lead"]) fun _ _ _ _ _ _ us hl => match us, hl with | [_, _, _, _], _ => rfl
  have mTh := PySem.W.mg_of X G aTh
  have FAl := fun_mk (st := sAlpha) lAl cAl kAl
  have bAl := FAl.binds (ps := ["letters"]) fun _ _ _ _ _ _ us hl => match us, hl with | [_], _ => rfl
  have mAl := PySem.W.mg_of X G aAl
  have FCw := fun_mk (st := sCw) lCw cCw kCw
  have bCw := FCw.binds (ps := ["letters", "word"]) fun _ _ _ _ _ _ us hl => match us, hl with | [_, _], _ => rfl
  have mCw := PySem.W.mg_of X G aCw
  have FWc := fun_mk (st := sWc) lWc cWc kWc
  have bWc := FWc.binds (ps := ["column", "square"]) fun _ _ _ _ _ _ us hl => match us, hl with | [_, _], _ => rfl
  have mWc := PySem.W.mg_of X G aWc
  have FLp := fun_mk (st := sLp) lLp cLp kLp
  have bLp := FLp.binds (ps := ["row"]) fun _ _ _ _ _ _ us hl => match us, hl with | [_], _ => rfl
  have mLp := PySem.W.mg_of X G aLp
  have FWs := fun_mk (st := sWs) lWs cWs kWs
  have bWs := FWs.binds (ps := ["row"]) fun _ _ _ _ _ _ us hl => match us, hl with | [_], _ => rfl
  have mWs := PySem.W.mg_of X G aWs
  have FFr := fun_mk (st := sFrd) lFr cFr kFr
  have bFr := FFr.binds (ps := ["row", "other", "place"]) fun _ _ _ _ _ _ us hl => match us, hl with | [_, _, _], _ => rfl
  have mFr := PySem.W.mg_of X G aFr
  have FIs := fun_mk (st := sIs) lIs cIs kIs
  have bIs := FIs.binds (ps := ["machine", "rows", "columns"]) fun _ _ _ _ _ _ us hl => match us, hl with | [_, _, _], _ => rfl
  have mIs := PySem.W.mg_of X G aIs
  have FTp := fun_mk (st := sTape) lTp cTp kTp
  have bTp := FTp.binds (ps := ["script"]) fun _ _ _ _ _ _ us hl => match us, hl with | [_], _ => rfl
  have mTp := PySem.W.mg_of X G aTp
  have FNx := fun_mk (st := sNext) lNx cNx kNx
  have bNx := FNx.binds (ps := ["tape", "limit"]) fun _ _ _ _ _ _ us hl => match us, hl with | [_, _], _ => rfl
  have mNx := PySem.W.mg_of X G aNx
  have FGr := fun_mk (st := sGreat) lGr cGr kGr
  have bGr := FGr.binds (ps := ["tape"]) fun _ _ _ _ _ _ us hl => match us, hl with | [_], _ => rfl
  have mGr := PySem.W.mg_of X G aGr
  have FEn := fun_mk (st := sEntry) lEn cEn kEn
  have bEn := FEn.binds (ps := ["tape"]) fun _ _ _ _ _ _ us hl => match us, hl with | [_], _ => rfl
  have mEn := PySem.W.mg_of X G aEn
  have FLsh := fun_mk (st := sShared) lLsh cLsh kLsh
  have bLsh := FLsh.binds (ps := ["one", "other"]) fun _ _ _ _ _ _ us hl => match us, hl with | [_, _], _ => rfl
  have mLsh := PySem.W.mg_of X G aLsh
  have FLo := fun_mk (st := sLowest) lLo cLo kLo
  have bLo := FLo.binds (ps := ["top", "bottom"]) fun _ _ _ _ _ _ us hl => match us, hl with | [_, _], _ => rfl
  have mLo := PySem.W.mg_of X G aLo
  have FPl := fun_mk (st := sPlus) lPl cPl kPl
  have bPl := FPl.binds (ps := ["one", "two"]) fun _ _ _ _ _ _ us hl => match us, hl with | [_, _], _ => rfl
  have mPl := PySem.W.mg_of X G aPl
  have FBy := fun_mk (st := sBy) lBy cBy kBy
  have bBy := FBy.binds (ps := ["one", "two"]) fun _ _ _ _ _ _ us hl => match us, hl with | [_, _], _ => rfl
  have mBy := PySem.W.mg_of X G aBy
  have FDt := fun_mk (st := sDt) lDt cDt kDt
  have bDt := FDt.binds (ps := ["row", "other"]) fun _ _ _ _ _ _ us hl => match us, hl with | [_, _], _ => rfl
  have mDt := PySem.W.mg_of X G aDt
  have FAh := fun_mk (st := sAh) lAh cAh kAh
  have bAh := FAh.binds (ps := ["row", "step"]) fun _ _ _ _ _ _ us hl => match us, hl with | [_, _], _ => rfl
  have mAh := PySem.W.mg_of X G aAh
  have FBh := fun_mk (st := sBh) lBh cBh kBh
  have bBh := FBh.binds (ps := ["step", "column"]) fun _ _ _ _ _ _ us hl => match us, hl with | [_, _], _ => rfl
  have mBh := PySem.W.mg_of X G aBh
  have FLs := fun_mk (st := sStepL) lLs cLs kLs
  have bLs := FLs.binds (ps := ["tape", "size", "shape", "letter"]) fun _ _ _ _ _ _ us hl => match us, hl with | [_, _, _, _], _ => rfl
  have mLs := PySem.W.mg_of X G aLs
  have FBo := fun_mk (st := sBottoms) lBo cBo kBo
  have bBo := FBo.binds (ps := ["tape", "letters", "size"]) fun _ _ _ _ _ _ us hl => match us, hl with | [_, _, _], _ => rfl
  have mBo := PySem.W.mg_of X G aBo
  have FPn := fun_mk (st := sPlain) lPn cPn kPn
  have bPn := FPn.binds (ps := ["tape", "wide", "limits"]) fun _ _ _ _ _ _ us hl => match us, hl with | [_, _, _], _ => rfl
  have mPn := PySem.W.mg_of X G aPn
  have FOv := fun_mk (st := sOver) lOv cOv kOv
  have bOv := FOv.binds (ps := ["row", "bottom"]) fun _ _ _ _ _ _ us hl => match us, hl with | [_, _], _ => rfl
  have mOv := PySem.W.mg_of X G aOv
  have FPt := fun_mk (st := sParts) lPt cPt kPt
  have bPt := FPt.binds (ps := ["plain"]) fun _ _ _ _ _ _ us hl => match us, hl with | [_], _ => rfl
  have mPt := PySem.W.mg_of X G aPt
  have FDe := fun_mk (st := sDeed) lDe cDe kDe
  have bDe := FDe.binds (ps := ["tape", "size"]) fun _ _ _ _ _ _ us hl => match us, hl with | [_, _], _ => rfl
  have mDe := PySem.W.mg_of X G aDe
  have FRi := fun_mk (st := sRight) lRi cRi kRi
  have bRi := FRi.binds (ps := ["rows", "deed"]) fun _ _ _ _ _ _ us hl => match us, hl with | [_, _], _ => rfl
  have mRi := PySem.W.mg_of X G aRi
  have FLe := fun_mk (st := sLeft) lLe cLe kLe
  have bLe := FLe.binds (ps := ["rows", "deed"]) fun _ _ _ _ _ _ us hl => match us, hl with | [_, _], _ => rfl
  have mLe := PySem.W.mg_of X G aLe
  have FCh := fun_mk (st := sChange) lCh cCh kCh
  have bCh := FCh.binds (ps := ["parts", "deed"]) fun _ _ _ _ _ _ us hl => match us, hl with | [_, _], _ => rfl
  have mCh := PySem.W.mg_of X G aCh
  have FPr := fun_mk (st := sPairL) lPr cPr kPr
  have bPr := FPr.binds (ps := ["tape"]) fun _ _ _ _ _ _ us hl => match us, hl with | [_], _ => rfl
  have mPr := PySem.W.mg_of X G aPr
  have FUs := fun_mk (st := sUnseen) lUs cUs kUs
  have bUs := FUs.binds (ps := ["parts", "tape"]) fun _ _ _ _ _ _ us hl => match us, hl with | [_, _], _ => rfl
  have mUs := PySem.W.mg_of X G aUs
  have FUr := fun_mk (st := sUnreached) lUr cUr kUr
  have bUr := FUr.binds (ps := ["parts", "tape"]) fun _ _ _ _ _ _ us hl => match us, hl with | [_, _], _ => rfl
  have mUr := PySem.W.mg_of X G aUr
  have FAk := fun_mk (st := sAlk) lAk cAk kAk
  have bAk := FAk.binds (ps := ["tape", "plain", "most"]) fun _ _ _ _ _ _ us hl => match us, hl with | [_, _, _], _ => rfl
  have mAk := PySem.W.mg_of X G aAk
  have FRs := fun_mk (st := sRats) lRs cRs kRs
  have bRs := FRs.binds (ps := ["row"]) fun _ _ _ _ _ _ us hl => match us, hl with | [_], _ => rfl
  have mRs := PySem.W.mg_of X G aRs
  have FMa := fun_mk (st := sMakeM) lMa cMa kMa
  have bMa := FMa.binds (ps := ["parts"]) fun _ _ _ _ _ _ us hl => match us, hl with | [_], _ => rfl
  have mMa := PySem.W.mg_of X G aMa
  have FRo := fun_mk (st := sRo) lRo cRo kRo
  have bRo := FRo.binds (ps := ["plain", "word"]) fun _ _ _ _ _ _ us hl => match us, hl with | [_, _], _ => rfl
  have mRo := PySem.W.mg_of X G aRo
  have FRws := fun_mk (st := sRws) lRws cRws kRws
  have bRws := FRws.binds (ps := ["plain", "length"]) fun _ _ _ _ _ _ us hl => match us, hl with | [_, _], _ => rfl
  have mRws := PySem.W.mg_of X G aRws
  have FCls := fun_mk (st := sCls) lCls cCls kCls
  have bCls := FCls.binds (ps := ["plain", "length"]) fun _ _ _ _ _ _ us hl => match us, hl with | [_, _], _ => rfl
  have mCls := PySem.W.mg_of X G aCls
  have FFo := fun_mk (st := sFi1) lFo cFo kFo
  have bFo := FFo.binds (ps := ["pairs"]) fun _ _ _ _ _ _ us hl => match us, hl with | [_], _ => rfl
  have mFo := PySem.W.mg_of X G aFo
  have FTo := fun_mk (st := sTo) lTo cTo kTo
  have bTo := FTo.binds (ps := ["rows", "columns"]) fun _ _ _ _ _ _ us hl => match us, hl with | [_, _], _ => rfl
  have mTo := PySem.W.mg_of X G aTo
  have FRwd := fun_mk (st := sRwd) lRwd cRwd kRwd
  have bRwd := FRwd.binds (ps := ["plain"]) fun _ _ _ _ _ _ us hl => match us, hl with | [_], _ => rfl
  have mRwd := PySem.W.mg_of X G aRwd
  have FCwd := fun_mk (st := sCwd) lCwd cCwd kCwd
  have bCwd := FCwd.binds (ps := ["plain"]) fun _ _ _ _ _ _ us hl => match us, hl with | [_], _ => rfl
  have mCwd := PySem.W.mg_of X G aCwd
  have FCl := fun_mk (st := sCl) lCl cCl kCl
  have bCl := FCl.binds (ps := ["plain", "word"]) fun _ _ _ _ _ _ us hl => match us, hl with | [_, _], _ => rfl
  have mCl := PySem.W.mg_of X G aCl
  have FWo := fun_mk (st := sWo) lWo cWo kWo
  have bWo := FWo.binds (ps := ["tape", "letters", "most"]) fun _ _ _ _ _ _ us hl => match us, hl with | [_, _, _], _ => rfl
  have mWo := PySem.W.mg_of X G aWo
  have FDu := fun_mk (st := sDu) lDu cDu kDu
  have bDu := FDu.binds (ps := ["plain", "rows", "columns"]) fun _ _ _ _ _ _ us hl => match us, hl with | [_, _, _], _ => rfl
  have mDu := PySem.W.mg_of X G aDu
  have FHo := fun_mk (st := sHolds) lHo cHo kHo
  have bHo := FHo.binds (ps := ["machine", "rows", "columns", "due"]) fun _ _ _ _ _ _ us hl => match us, hl with | [_, _, _, _], _ => rfl
  have mHo := PySem.W.mg_of X G aHo
  refine ⟨PySem.W.fnOf "law" "law" (defArgs sLaw) (defBody sLaw) (defScope sLaw) .none kVL dcL pmL anL cdL ctL, fun s v => .of_eq rfl, fun base _ _ seer => ?_⟩
  have BG : PL.Big l.prog base := ⟨seer, ht⟩
  have TR : TxtR K mg C := ⟨⟨pgC, hdC, poC, saC⟩, nCtop, nCbottom, PySem.W.mg_of X G aC, PySem.W.mg_of X G xGcd⟩
  have TM : TxtM K mg CM := ⟨⟨pgCM, hdCM, poCM, saCM⟩, nCMletters, nCMstart, nCMsteps, nCMend, nCM_above, PySem.W.mg_of X G aCM⟩
  have TP : TxtP mg := ⟨PySem.W.mg_none_of X G z_zip, PySem.W.mg_of X G xLcm, PySem.W.mg_none_of X G z_tuple, PySem.W.mg_none_of X G z_list, PySem.W.mg_none_of X G z_range⟩
  have msum := PySem.W.mg_none_of X G z_sum
  have mall := PySem.W.mg_none_of X G z_all
  have mrev := PySem.W.mg_none_of X G z_reversed
  have M : Mk K C fI := ⟨mkC, aI, iI, kcC⟩
  have MM : Mk K CM fMi := ⟨mkCM, aMi, iMi, kcCM⟩
  have GI := ok_initB (P := l.prog) (w := w) (base := base) BG FI TR
  have TS : TxtS K mg CS := ⟨PySem.W.mg_of X G aCS, ⟨pgCS, hdCS, poCS, saCS⟩, nCS_by_lead⟩
  have MSp : Mk K CS fSpi := ⟨mkCS, aSpi, iSpi, kcCS⟩
  have GSp := ok_spi (P := l.prog) (w := w) (base := base) FSpi TS
  have cCb : CalN l.prog w K mg base "common_bottom" 1 ["row"] (spCbm C) fCb _ := ⟨ok_cbm FCb TP TR, mCb, kCb, bCb⟩
  have cTa : CalN l.prog w K mg base "tops_above" 33 ["row", "bottom"] (spTa C) fTa _ := ⟨ok_ta BG FTa TR, mTa, kTa, bTa⟩
  have cRa : CalN l.prog w K mg base "row_above" 34 ["row"] (spRa C) fRa _ := ⟨ok_ra FRa cCb cTa, mRa, kRa, bRa⟩
  have cTb : CalN l.prog w K mg base "table_above" 34 ["table"] (spTb C) fTb _ := ⟨ok_tb FTb TP cCb cTa, mTb, kTb, bTb⟩
  have cRt : CalN l.prog w K mg base "ratios" 35 ["tops", "bottom"] (spRts C) fRt _ := ⟨ok_rts FRt TP TR M GI bI, mRt, kRt, bRt⟩
  have cWp : CalN l.prog w K mg base "whole_product" 1 ["one", "other"] (spWp C) fWp _ := ⟨ok_wp FWp TP msum, mWp, kWp, bWp⟩
  have cWr : CalN l.prog w K mg base "whole_row_times" 1 ["row", "square"] (spWr C) fWr _ := ⟨ok_wr FWr T TP, mWr, kWr, bWr⟩
  have cSf : CalN l.prog w K mg base "shared_factor" 1 ["row"] (spShf C) fSf _ := ⟨ok_shf FSf TR, mSf, kSf, bSf⟩
  have cSh : CalN l.prog w K mg base "shortened" 33 ["tops", "bottom"] (spShd C) fSh _ := ⟨ok_shd BG FSh cSf, mSh, kSh, bSh⟩
  have cTh : CalN l.prog w K mg base "row_through" 34 ["tops", "bottom", "steps", "lead"] (spRth C stR fWr) fTh _ := ⟨ok_rth FTh T (PySem.W.mg_of X G xSH) (by decide) cSh cWr, mTh, kTh, bTh⟩
  have cAl : CalN l.prog w K mg base "alphabet" 1 ["letters"] spAl fAl _ := ⟨ok_al FAl (PySem.W.mg_of X G xLet), mAl, kAl, bAl⟩
  have cCw : CalN l.prog w K mg base "check_word" 2 ["letters", "word"] spCw fCw _ := ⟨ok_cw FCw cAl, mCw, kCw, bCw⟩
  have cFi : MetN l.prog w K mg base CM "_fits" 1 ["self"] (spFit C CM) fFi _ := ⟨ok_fit FFi T TM mall, ⟨aFi, iFi, kFi⟩, bFi⟩
  have cSt : MetN l.prog w K mg base CM "_step_above" 35 ["self", "letter"] (spSta C CM) fSt _ := ⟨ok_sta FSt TM cAl cTb, ⟨aSt, iSt, kSt⟩, bSt⟩
  have cRw : MetN l.prog w K mg base CM "_row_above" 36 ["self", "word"] (spRwa C CM) fRw _ := ⟨ok_rwa FRw TM cCw cRa cSt cWr cTh, ⟨aRw, iRw, kRw⟩, bRw⟩
  have GM := ok_mi (P := l.prog) (w := w) (base := base) FMi TP TM cFi
  have cMr : MetN l.prog w K mg base CM "row" 37 ["self", "word"] (spRow C CM) fMr _ := ⟨ok_row FMr TM cRw cRt, ⟨aMr, iMr, kMr⟩, bMr⟩
  have cWc : CalN l.prog w K mg base "whole_column_times" 2 ["column", "square"] (spLead C stC) fWc _ := ⟨ok_wc FWc cWp, mWc, kWc, bWc⟩
  have cTc : CalN l.prog w K mg base "row_through" 34 ["tops", "bottom", "steps", "lead"] (spRth C stC fWc) fTh _ := ⟨ok_rth FTh T (PySem.W.mg_of X G xSH) (by decide) cSh cWc, mTh, kTh, bTh⟩
  have cMc : MetN l.prog w K mg base CM "column" 36 ["self", "word"] (spCol C CM) fMc _ := ⟨ok_col FMc TM mrev cCw cRa cSt cWc cTc cRt, ⟨aMc, iMc, kMc⟩, bMc⟩
  have cLp : CalN l.prog w K mg base "leading_place" 1 ["row"] spLp fLp _ := ⟨ok_lp FLp (PySem.W.mg_none_of X G z_enumerate), mLp, kLp, bLp⟩
  have cWs : CalN l.prog w K mg base "_without_shared" 33 ["row"] spWs fWs _ := ⟨ok_ws BG FWs cSf, mWs, kWs, bWs⟩
  have cFr : CalN l.prog w K mg base "_freed" 34 ["row", "other", "place"] spFrd fFr _ := ⟨ok_frd BG FFr TP TR cWs, mFr, kFr, bFr⟩
  have cSrs : MetN l.prog w K mg base CS "rest" 34 ["self", "row"] (spRest CS) fSrs _ := ⟨ok_rest BG FSrs TP TS cWs, ⟨aSrs, iSrs, kSrs⟩, bSrs⟩
  have cStk : MetN l.prog w K mg base CS "take_in" 36 ["self", "row"] (spTk CS) fStk _ := ⟨ok_tk FStk TS cSrs cLp cFr, ⟨aStk, iStk, kStk⟩, bStk⟩
  have cSro : MetN l.prog w K mg base CS "rows" 1 ["self"] (spRows CS) fSro _ := ⟨ok_rows FSro TS (PySem.W.mg_none_of X G z_sorted), ⟨aSro, iSro, kSro⟩, bSro⟩
  have cIs : CalN l.prog w K mg base "is_corner" 38 ["machine", "rows", "columns"] (spIs C CM) fIs _ := ⟨ok_is FIs T TM TS cRa cMr cMc MSp GSp bSpi cStk cWp cSro, mIs, kIs, bIs⟩
  have cTp : CalN l.prog w K mg base "_law_tape" 1 ["script"] (spFeed K) fTp _ := ⟨ok_feed FTp T, mTp, kTp, bTp⟩
  have cNx : CalN l.prog w K mg base "_law_next" 1 ["tape", "limit"] spDraw fNx _ := ⟨ok_draw FNx T, mNx, kNx, bNx⟩
  have cGr : CalN l.prog w K mg base "_law_great" 2 ["tape"] spGrt fGr _ := ⟨ok_grt FGr T cNx, mGr, kGr, bGr⟩
  have cEn : CalN l.prog w K mg base "_law_entry" 2 ["tape"] spEn fEn _ := ⟨ok_en FEn cNx, mEn, kEn, bEn⟩
  have cLsh : CalN l.prog w K mg base "_law_shared" 1 ["one", "other"] spShr fLsh _ := ⟨ok_shr FLsh T, mLsh, kLsh, bLsh⟩
  have cLo : CalN l.prog w K mg base "_law_lowest" 33 ["top", "bottom"] spPairB fLo _ := ⟨ok_low BG FLo cLsh, mLo, kLo, bLo⟩
  have cPl : CalN l.prog w K mg base "_law_plus" 34 ["one", "two"] (spPlu C) fPl _ := ⟨ok_plu FPl cLo, mPl, kPl, bPl⟩
  have cBy : CalN l.prog w K mg base "_law_by" 34 ["one", "two"] (spBy C) fBy _ := ⟨ok_by FBy cLo, mBy, kBy, bBy⟩
  have cDt : CalN l.prog w K mg base "_law_dot" 1 ["row", "other"] spDt fDt _ := ⟨ok_dt FDt T msum, mDt, kDt, bDt⟩
  have cAh : CalN l.prog w K mg base "_law_ahead" 2 ["row", "step"] spAh fAh _ := ⟨ok_ah FAh T, mAh, kAh, bAh⟩
  have cBh : CalN l.prog w K mg base "_law_behind" 2 ["step", "column"] spBh fBh _ := ⟨ok_bh FBh cDt, mBh, kBh, bBh⟩
  have cLs : CalN l.prog w K mg base "_law_step" 3 ["tape", "size", "shape", "letter"] spStp fLs _ := ⟨ok_stp FLs T cEn, mLs, kLs, bLs⟩
  have cBo : CalN l.prog w K mg base "_law_bottoms" 3 ["tape", "letters", "size"] spBo fBo _ := ⟨ok_bo FBo T cNx cGr, mBo, kBo, bBo⟩
  have cPn : CalN l.prog w K mg base "_law_plain" 4 ["tape", "wide", "limits"] spPn fPn _ := ⟨ok_pn FPn T cNx cGr cEn cLs cBo, mPn, kPn, bPn⟩
  have cOv : CalN l.prog w K mg base "_law_over" 34 ["row", "bottom"] spOv fOv _ := ⟨ok_ov FOv cLo, mOv, kOv, bOv⟩
  have cPt : CalN l.prog w K mg base "_law_parts" 35 ["plain"] (spPt C) fPt _ := ⟨ok_pt FPt T cOv, mPt, kPt, bPt⟩
  have cDe : CalN l.prog w K mg base "_law_deed" 34 ["tape", "size"] spDe fDe _ := ⟨ok_de FDe T cLo cNx, mDe, kDe, bDe⟩
  have cRi : CalN l.prog w K mg base "_law_right" 35 ["rows", "deed"] (spRi C) fRi _ := ⟨ok_ri FRi T cPl cBy, mRi, kRi, bRi⟩
  have cLe : CalN l.prog w K mg base "_law_left" 35 ["rows", "deed"] (spLe C) fLe _ := ⟨ok_le FLe T cPl cBy cLo, mLe, kLe, bLe⟩
  have cCh : CalN l.prog w K mg base "_law_change" 36 ["parts", "deed"] spCh fCh _ := ⟨ok_ch FCh T cRi cLe, mCh, kCh, bCh⟩
  have cPr : CalN l.prog w K mg base "_law_pair" 34 ["tape"] spPr fPr _ := ⟨ok_pr FPr cLo cEn cNx, mPr, kPr, bPr⟩
  have cUs : CalN l.prog w K mg base "_law_unseen" 35 ["parts", "tape"] spUs fUs _ := ⟨ok_us FUs T cPr, mUs, kUs, bUs⟩
  have cUr : CalN l.prog w K mg base "_law_unreached" 35 ["parts", "tape"] spUr fUr _ := ⟨ok_ur FUr T cPr, mUr, kUr, bUr⟩
  have cAk : CalN l.prog w K mg base "_law_alike" 37 ["tape", "plain", "most"] (spAlk C) fAk _ := ⟨ok_alk FAk T cPt cNx cUs cUr cCh cDe, mAk, kAk, bAk⟩
  have cRs : CalN l.prog w K mg base "_law_ratios" 35 ["row"] (spRs C) fRs _ := ⟨ok_rs FRs TR M GI bI, mRs, kRs, bRs⟩
  have cMa : CalN l.prog w K mg base "_law_machine" 36 ["parts"] (spMaM C CM) fMa _ := ⟨ok_mam FMa TM MM GM bMi cRs, mMa, kMa, bMa⟩
  have cRo : CalN l.prog w K mg base "_law_row" 3 ["plain", "word"] (spRo C) fRo _ := ⟨ok_ro FRo cAh, mRo, kRo, bRo⟩
  have cRws : CalN l.prog w K mg base "_law_rows" 3 ["plain", "length"] (spRws C) fRws _ := ⟨ok_rws FRws T cAh, mRws, kRws, bRws⟩
  have cCls : CalN l.prog w K mg base "_law_columns" 3 ["plain", "length"] (spCls C) fCls _ := ⟨ok_cls FCls T cBh, mCls, kCls, bCls⟩
  have cFo : CalN l.prog w K mg base "_law_first" 33 ["pairs"] (spFi1 C) fFo _ := ⟨ok_fi1 BG FFo T cLsh, mFo, kFo, bFo⟩
  have cTo : CalN l.prog w K mg base "_law_told" 2 ["rows", "columns"] (spTo C) fTo _ := ⟨ok_to FTo cDt, mTo, kTo, bTo⟩
  have cRwd : CalN l.prog w K mg base "_law_row_words" 34 ["plain"] (spRwd C) fRwd _ := ⟨ok_rwd FRwd T cRws cCls cFo cTo, mRwd, kRwd, bRwd⟩
  have cCwd : CalN l.prog w K mg base "_law_column_words" 34 ["plain"] (spCwd C) fCwd _ := ⟨ok_cwd FCwd T cRws cCls cFo cTo, mCwd, kCwd, bCwd⟩
  have cCl : CalN l.prog w K mg base "_law_column" 3 ["plain", "word"] (spCl C) fCl _ := ⟨ok_cl FCl cBh, mCl, kCl, bCl⟩
  have cWo : CalN l.prog w K mg base "_law_word" 2 ["tape", "letters", "most"] spWo fWo _ := ⟨ok_wo FWo T cNx, mWo, kWo, bWo⟩
  have cDu : CalN l.prog w K mg base "_law_due" 34 ["plain", "rows", "columns"] (spDu C) fDu _ := ⟨ok_du FDu T cRo cCl cFo cTo, mDu, kDu, bDu⟩
  have cHo : CalN l.prog w K mg base "_law_holds" 39 ["machine", "rows", "columns", "due"] (spHo C CM) fHo _ := ⟨ok_ho FHo T TP cIs, mHo, kHo, bHo⟩
  exact ok_law (fun_mk (st := sLaw) lL cL kL) T cTp cPn cRwd cCwd cNx cWo cDu cAk cMa cHo cPt
theorem walk {l : PySem.W.OpenLaw} {q : Program} {loose : List Str} {XP : (Str → Option Value) → Heap → Prop} {YP : World → Heap → Prop} {d : DefRec} {K : Params → PySem.W.Frag} (hi : PyProof.Rows.importsNone q = true) (hn : l.most = some 63) (hdf : d.params.defaults = [])
    (hY : ∀ (w : World) (h : Heap), YP w h → (K w.params).In h)
    (F : ∀ (w : World) (mg : Str → Option Value) (fa : Addr) (h : Heap), (K w.params).In h → h.Ns mainGlobals mg → mg d.name = some (.ref fa) →
      ∃ fd : FuncData, (∀ (s : Shared) (u : Value), BindsTo s fd ⟨[u], []⟩ [("script", u)]) ∧ ∀ base : Heap, (K w.params).In base → base.Ns mainGlobals mg → base.NoSeer → FnOk l.prog w (K w.params) mg base CX0 40 fa fd ["script"] (spLaw (K w.params))) :
    PySem.W.WalkO q loose XP YP l.row.toRowW d [] (fun f vs => PySem.call f vs) :=
  PL.big_walk (n := 63) (k := 40) (x := "script") (CX := fun _ => CX0) (sp := fun w => spLaw (K w.params)) hi hn (by decide) hdf ⟨rfl, by decide, by decide⟩ hY F (fun _ _ a ns hl _ hS => ⟨a, ns, rfl, hS, hl, fun _ => rfl⟩) fun _ _ _ _ _ z => z
end RX

set_option Elab.async false

open PySem PySem.W PyProof.Rows in
set_option maxRecDepth 100000 in
set_option maxHeartbeats 0 in
theorem PySem.Challenge.cw_wordworth_k36_corners_holds : PySem.Challenge.rw_wordworth_k36_corners.Holds := by
  w_on; o_law; k_head; (case hw => w_witness2)
  k_fill
  refine RX.walk (l := PySem.Challenge.rw_wordworth_k36_corners) rfl rfl rfl (fun w h Y => PySem.W.kIn_of Y) ?F
  case F =>
    intro w mg fa h KX G hmg
    refine' RX.all_mk KX G hmg rfl ?xSH ?xGcd ?xLcm ?xLet ?aC ?pgC ?hdC ?poC ?saC ?nCtop ?nCbottom ?mkC ?kcC ?xaC ?xmC ?aI ?iI ?lI ?cI ?kI ?lT ?aCM ?pgCM ?hdCM ?poCM ?saCM ?nCMletters ?nCMstart ?nCMsteps ?nCMend ?nCM_above ?mkCM ?kcCM ?aMi ?iMi ?lMi ?cMi ?kMi ?aFi ?iFi ?lFi ?cFi ?kFi ?aSt ?iSt ?lSt ?cSt ?kSt ?aRw ?iRw ?lRw ?cRw ?kRw ?aMr ?iMr ?lMr ?cMr ?kMr ?aMc ?iMc ?lMc ?cMc ?kMc ?aCS ?pgCS ?hdCS ?poCS ?saCS ?nCS_by_lead ?mkCS ?kcCS ?aSpi ?iSpi ?lSpi ?cSpi ?kSpi ?aSrs ?iSrs ?lSrs ?cSrs ?kSrs ?aStk ?iStk ?lStk ?cStk ?kStk ?aSro ?iSro ?lSro ?cSro ?kSro ?xn ?xt ?aCb ?lCb ?cCb ?kCb ?aTa ?lTa ?cTa ?kTa ?aRa ?lRa ?cRa ?kRa ?aTb ?lTb ?cTb ?kTb ?aRt ?lRt ?cRt ?kRt ?aWp ?lWp ?cWp ?kWp ?aWr ?lWr ?cWr ?kWr ?aSf ?lSf ?cSf ?kSf ?aSh ?lSh ?cSh ?kSh ?aTh ?lTh ?cTh ?kTh ?aAl ?lAl ?cAl ?kAl ?aCw ?lCw ?cCw ?kCw ?aWc ?lWc ?cWc ?kWc ?aLp ?lLp ?cLp ?kLp ?aWs ?lWs ?cWs ?kWs ?aFr ?lFr ?cFr ?kFr ?aIs ?lIs ?cIs ?kIs ?aTp ?lTp ?cTp ?kTp ?aNx ?lNx ?cNx ?kNx ?aGr ?lGr ?cGr ?kGr ?aEn ?lEn ?cEn ?kEn ?aLsh ?lLsh ?cLsh ?kLsh ?aLo ?lLo ?cLo ?kLo ?aPl ?lPl ?cPl ?kPl ?aBy ?lBy ?cBy ?kBy ?aDt ?lDt ?cDt ?kDt ?aAh ?lAh ?cAh ?kAh ?aBh ?lBh ?cBh ?kBh ?aLs ?lLs ?cLs ?kLs ?aBo ?lBo ?cBo ?kBo ?aPn ?lPn ?cPn ?kPn ?aOv ?lOv ?cOv ?kOv ?aPt ?lPt ?cPt ?kPt ?aDe ?lDe ?cDe ?kDe ?aRi ?lRi ?cRi ?kRi ?aLe ?lLe ?cLe ?kLe ?aCh ?lCh ?cCh ?kCh ?aPr ?lPr ?cPr ?kPr ?aUs ?lUs ?cUs ?kUs ?aUr ?lUr ?cUr ?kUr ?aAk ?lAk ?cAk ?kAk ?aRs ?lRs ?cRs ?kRs ?aMa ?lMa ?cMa ?kMa ?aRo ?lRo ?cRo ?kRo ?aRws ?lRws ?cRws ?kRws ?aCls ?lCls ?cCls ?kCls ?aFo ?lFo ?cFo ?kFo ?aTo ?lTo ?cTo ?kTo ?aRwd ?lRwd ?cRwd ?kRwd ?aCwd ?lCwd ?cCwd ?kCwd ?aCl ?lCl ?cCl ?kCl ?aWo ?lWo ?cWo ?kWo ?aDu ?lDu ?cDu ?kDu ?aHo ?lHo ?cHo ?kHo ?aL ?lL ?cL ?kL ?z_abs ?z_len ?z_int ?z_max ?z_range ?z_isinstance ?z_bool ?z_zip ?z_tuple ?z_list ?z_sum ?z_all ?z_reversed ?z_enumerate ?z_sorted
    (case xSH => k_is)
    (case xGcd => k_is)
    (case xLcm => k_is)
    (case xLet => k_is)
    (case aC => k_is)
    (case pgC => k_is)
    (case hdC => k_is)
    (case poC => k_is)
    (case saC => k_is)
    (case nCtop => k_is)
    (case nCbottom => k_is)
    (case mkC => k_is)
    (case kcC => k_is)
    (case xaC => k_is)
    (case xmC => k_is)
    (case aI => k_is)
    (case iI => k_is)
    (case lI => k_is)
    (case cI => k_is)
    (case kI => k_is)
    (case lT => k_is)
    (case aCM => k_is)
    (case pgCM => k_is)
    (case hdCM => k_is)
    (case poCM => k_is)
    (case saCM => k_is)
    (case nCMletters => k_is)
    (case nCMstart => k_is)
    (case nCMsteps => k_is)
    (case nCMend => k_is)
    (case nCM_above => k_is)
    (case mkCM => k_is)
    (case kcCM => k_is)
    (case aMi => k_is)
    (case iMi => k_is)
    (case lMi => k_is)
    (case cMi => k_is)
    (case kMi => k_is)
    (case aFi => k_is)
    (case iFi => k_is)
    (case lFi => k_is)
    (case cFi => k_is)
    (case kFi => k_is)
    (case aSt => k_is)
    (case iSt => k_is)
    (case lSt => k_is)
    (case cSt => k_is)
    (case kSt => k_is)
    (case aRw => k_is)
    (case iRw => k_is)
    (case lRw => k_is)
    (case cRw => k_is)
    (case kRw => k_is)
    (case aMr => k_is)
    (case iMr => k_is)
    (case lMr => k_is)
    (case cMr => k_is)
    (case kMr => k_is)
    (case aMc => k_is)
    (case iMc => k_is)
    (case lMc => k_is)
    (case cMc => k_is)
    (case kMc => k_is)
    (case aCS => k_is)
    (case pgCS => k_is)
    (case hdCS => k_is)
    (case poCS => k_is)
    (case saCS => k_is)
    (case nCS_by_lead => k_is)
    (case mkCS => k_is)
    (case kcCS => k_is)
    (case aSpi => k_is)
    (case iSpi => k_is)
    (case lSpi => k_is)
    (case cSpi => k_is)
    (case kSpi => k_is)
    (case aSrs => k_is)
    (case iSrs => k_is)
    (case lSrs => k_is)
    (case cSrs => k_is)
    (case kSrs => k_is)
    (case aStk => k_is)
    (case iStk => k_is)
    (case lStk => k_is)
    (case cStk => k_is)
    (case kStk => k_is)
    (case aSro => k_is)
    (case iSro => k_is)
    (case lSro => k_is)
    (case cSro => k_is)
    (case kSro => k_is)
    (case xn => k_is)
    (case xt => k_is)
    (case aCb => k_is)
    (case lCb => k_is)
    (case cCb => k_is)
    (case kCb => k_is)
    (case aTa => k_is)
    (case lTa => k_is)
    (case cTa => k_is)
    (case kTa => k_is)
    (case aRa => k_is)
    (case lRa => k_is)
    (case cRa => k_is)
    (case kRa => k_is)
    (case aTb => k_is)
    (case lTb => k_is)
    (case cTb => k_is)
    (case kTb => k_is)
    (case aRt => k_is)
    (case lRt => k_is)
    (case cRt => k_is)
    (case kRt => k_is)
    (case aWp => k_is)
    (case lWp => k_is)
    (case cWp => k_is)
    (case kWp => k_is)
    (case aWr => k_is)
    (case lWr => k_is)
    (case cWr => k_is)
    (case kWr => k_is)
    (case aSf => k_is)
    (case lSf => k_is)
    (case cSf => k_is)
    (case kSf => k_is)
    (case aSh => k_is)
    (case lSh => k_is)
    (case cSh => k_is)
    (case kSh => k_is)
    (case aTh => k_is)
    (case lTh => k_is)
    (case cTh => k_is)
    (case kTh => k_is)
    (case aAl => k_is)
    (case lAl => k_is)
    (case cAl => k_is)
    (case kAl => k_is)
    (case aCw => k_is)
    (case lCw => k_is)
    (case cCw => k_is)
    (case kCw => k_is)
    (case aWc => k_is)
    (case lWc => k_is)
    (case cWc => k_is)
    (case kWc => k_is)
    (case aLp => k_is)
    (case lLp => k_is)
    (case cLp => k_is)
    (case kLp => k_is)
    (case aWs => k_is)
    (case lWs => k_is)
    (case cWs => k_is)
    (case kWs => k_is)
    (case aFr => k_is)
    (case lFr => k_is)
    (case cFr => k_is)
    (case kFr => k_is)
    (case aIs => k_is)
    (case lIs => k_is)
    (case cIs => k_is)
    (case kIs => k_is)
    (case aTp => k_is)
    (case lTp => k_is)
    (case cTp => k_is)
    (case kTp => k_is)
    (case aNx => k_is)
    (case lNx => k_is)
    (case cNx => k_is)
    (case kNx => k_is)
    (case aGr => k_is)
    (case lGr => k_is)
    (case cGr => k_is)
    (case kGr => k_is)
    (case aEn => k_is)
    (case lEn => k_is)
    (case cEn => k_is)
    (case kEn => k_is)
    (case aLsh => k_is)
    (case lLsh => k_is)
    (case cLsh => k_is)
    (case kLsh => k_is)
    (case aLo => k_is)
    (case lLo => k_is)
    (case cLo => k_is)
    (case kLo => k_is)
    (case aPl => k_is)
    (case lPl => k_is)
    (case cPl => k_is)
    (case kPl => k_is)
    (case aBy => k_is)
    (case lBy => k_is)
    (case cBy => k_is)
    (case kBy => k_is)
    (case aDt => k_is)
    (case lDt => k_is)
    (case cDt => k_is)
    (case kDt => k_is)
    (case aAh => k_is)
    (case lAh => k_is)
    (case cAh => k_is)
    (case kAh => k_is)
    (case aBh => k_is)
    (case lBh => k_is)
    (case cBh => k_is)
    (case kBh => k_is)
    (case aLs => k_is)
    (case lLs => k_is)
    (case cLs => k_is)
    (case kLs => k_is)
    (case aBo => k_is)
    (case lBo => k_is)
    (case cBo => k_is)
    (case kBo => k_is)
    (case aPn => k_is)
    (case lPn => k_is)
    (case cPn => k_is)
    (case kPn => k_is)
    (case aOv => k_is)
    (case lOv => k_is)
    (case cOv => k_is)
    (case kOv => k_is)
    (case aPt => k_is)
    (case lPt => k_is)
    (case cPt => k_is)
    (case kPt => k_is)
    (case aDe => k_is)
    (case lDe => k_is)
    (case cDe => k_is)
    (case kDe => k_is)
    (case aRi => k_is)
    (case lRi => k_is)
    (case cRi => k_is)
    (case kRi => k_is)
    (case aLe => k_is)
    (case lLe => k_is)
    (case cLe => k_is)
    (case kLe => k_is)
    (case aCh => k_is)
    (case lCh => k_is)
    (case cCh => k_is)
    (case kCh => k_is)
    (case aPr => k_is)
    (case lPr => k_is)
    (case cPr => k_is)
    (case kPr => k_is)
    (case aUs => k_is)
    (case lUs => k_is)
    (case cUs => k_is)
    (case kUs => k_is)
    (case aUr => k_is)
    (case lUr => k_is)
    (case cUr => k_is)
    (case kUr => k_is)
    (case aAk => k_is)
    (case lAk => k_is)
    (case cAk => k_is)
    (case kAk => k_is)
    (case aRs => k_is)
    (case lRs => k_is)
    (case cRs => k_is)
    (case kRs => k_is)
    (case aMa => k_is)
    (case lMa => k_is)
    (case cMa => k_is)
    (case kMa => k_is)
    (case aRo => k_is)
    (case lRo => k_is)
    (case cRo => k_is)
    (case kRo => k_is)
    (case aRws => k_is)
    (case lRws => k_is)
    (case cRws => k_is)
    (case kRws => k_is)
    (case aCls => k_is)
    (case lCls => k_is)
    (case cCls => k_is)
    (case kCls => k_is)
    (case aFo => k_is)
    (case lFo => k_is)
    (case cFo => k_is)
    (case kFo => k_is)
    (case aTo => k_is)
    (case lTo => k_is)
    (case cTo => k_is)
    (case kTo => k_is)
    (case aRwd => k_is)
    (case lRwd => k_is)
    (case cRwd => k_is)
    (case kRwd => k_is)
    (case aCwd => k_is)
    (case lCwd => k_is)
    (case cCwd => k_is)
    (case kCwd => k_is)
    (case aCl => k_is)
    (case lCl => k_is)
    (case cCl => k_is)
    (case kCl => k_is)
    (case aWo => k_is)
    (case lWo => k_is)
    (case cWo => k_is)
    (case kWo => k_is)
    (case aDu => k_is)
    (case lDu => k_is)
    (case cDu => k_is)
    (case kDu => k_is)
    (case aHo => k_is)
    (case lHo => k_is)
    (case cHo => k_is)
    (case kHo => k_is)
    (case aL => k_is)
    (case lL => k_is)
    (case cL => k_is)
    (case kL => k_is)
    (case z_abs => k_is)
    (case z_len => k_is)
    (case z_int => k_is)
    (case z_max => k_is)
    (case z_range => k_is)
    (case z_isinstance => k_is)
    (case z_bool => k_is)
    (case z_zip => k_is)
    (case z_tuple => k_is)
    (case z_list => k_is)
    (case z_sum => k_is)
    (case z_all => k_is)
    (case z_reversed => k_is)
    (case z_enumerate => k_is)
    (case z_sorted => k_is)

