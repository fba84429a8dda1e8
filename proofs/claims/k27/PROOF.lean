import PyProof.Rows.All
import Wide.All
import OpenK.AllK
import Wide.FinOn
import HandS.Call
import HandS.List
import HandS.Wide
import KE.KOpsOwn
import HandS.ForMost
import HandS.Gcd
import HandS.MakeKw
import HandS.IsInst
import HandS.Codes
import HandS.Zip
import HandS.Ends
import KE.KMathG
import HandS.Walk
import HandS.Text
import HandS.Style
import HandS.More
import HandS.Iter
import KE.GoesMore
import PyProof.EnumMake
import HandS.Steps
import KE.IntTextLaws
import HandS.Flow
import HandS.ExcInitHot
import HandS.ExcField
import HandS.CallSlots
import HandS.Words
import HandS.WordsExc
import KE.KExcIs
import HandS.HotCalls
import HandS.Comp
import HandS.Defaults
import HandS.MakeKwOnly
import PySem.Challenge.RW_wordworth_k27_read_sum
/-! lowest terms, in plain Lean -/
namespace RT
def gg (t b : Int) : Int := ((Nat.gcd t.natAbs b.natAbs : Nat) : Int)
def byv (t b : Int) : Int := if b > 0 then gg t b else -(gg t b)
def top (t b : Int) : Int := t.fdiv (byv t b)
def bot (t b : Int) : Int := b.fdiv (byv t b)
theorem gg_pos {t b : Int} (h : b ≠ 0) : 0 < gg t b := by
  have : 0 < Nat.gcd t.natAbs b.natAbs := Nat.gcd_pos_of_pos_right _ (by omega)
  unfold gg; omega
theorem byv_ne {t b : Int} (h : b ≠ 0) : byv t b ≠ 0 := by
  have := gg_pos (t := t) h
  unfold byv; split <;> omega
theorem gg_dvd_l (t b : Int) : gg t b ∣ t := by
  unfold gg
  exact Int.ofNat_dvd_left.mpr (Nat.gcd_dvd_left _ _)
theorem gg_dvd_r (t b : Int) : gg t b ∣ b := by
  unfold gg
  exact Int.ofNat_dvd_left.mpr (Nat.gcd_dvd_right _ _)
theorem byv_dvd_l (t b : Int) : byv t b ∣ t := by
  unfold byv; split
  · exact gg_dvd_l t b
  · exact Int.neg_dvd.mpr (gg_dvd_l t b)
theorem byv_dvd_r (t b : Int) : byv t b ∣ b := by
  unfold byv; split
  · exact gg_dvd_r t b
  · exact Int.neg_dvd.mpr (gg_dvd_r t b)
theorem byv_natAbs (t b : Int) : (byv t b).natAbs = Nat.gcd t.natAbs b.natAbs := by
  unfold byv gg; split <;> simp
theorem fdiv_of_dvd {a b : Int} (hb : b ≠ 0) (h : b ∣ a) : a.fdiv b * b = a := by
  obtain ⟨k, rfl⟩ := h
  rw [Int.mul_fdiv_cancel_left _ hb, Int.mul_comm]
theorem top_mul {t b : Int} (h : b ≠ 0) : top t b * byv t b = t := fdiv_of_dvd (byv_ne h) (byv_dvd_l t b)
theorem bot_mul {t b : Int} (h : b ≠ 0) : bot t b * byv t b = b := fdiv_of_dvd (byv_ne h) (byv_dvd_r t b)
theorem bot_pos {t b : Int} (h : b ≠ 0) : 0 < bot t b := by
  have e := bot_mul (t := t) h
  have g := gg_pos (t := t) h
  unfold byv at e
  split at e
  · rename_i hb
    rcases Int.lt_trichotomy (bot t b) 0 with z | z | z
    · have := Int.mul_neg_of_neg_of_pos z g; omega
    · rw [z] at e; omega
    · exact z
  · rename_i hb
    rcases Int.lt_trichotomy (bot t b) 0 with z | z | z
    · have := Int.mul_neg_of_neg_of_pos z g
      have h2 : bot t b * -gg t b = -(bot t b * gg t b) := Int.mul_neg _ _
      omega
    · rw [z] at e; omega
    · exact z
theorem cop {t b : Int} (h : b ≠ 0) : Nat.Coprime (top t b).natAbs (bot t b).natAbs := by
  have e1 : (top t b).natAbs * Nat.gcd t.natAbs b.natAbs = t.natAbs := by
    rw [← byv_natAbs, ← Int.natAbs_mul, top_mul h]
  have e2 : (bot t b).natAbs * Nat.gcd t.natAbs b.natAbs = b.natAbs := by
    rw [← byv_natAbs, ← Int.natAbs_mul, bot_mul h]
  have hp : 0 < Nat.gcd t.natAbs b.natAbs := Nat.gcd_pos_of_pos_right _ (by omega)
  have : Nat.gcd ((top t b).natAbs * Nat.gcd t.natAbs b.natAbs) ((bot t b).natAbs * Nat.gcd t.natAbs b.natAbs) = Nat.gcd t.natAbs b.natAbs := by rw [e1, e2]
  rw [Nat.gcd_mul_right] at this
  unfold Nat.Coprime
  exact Nat.eq_of_mul_eq_mul_right hp (by rw [this, Nat.one_mul])
/-- two in lowest terms that are worth the same are the same -/
theorem uniq {n d n' d' : Int} (hd : 0 < d) (hd' : 0 < d') (c : Nat.Coprime n.natAbs d.natAbs) (c' : Nat.Coprime n'.natAbs d'.natAbs) (e : n * d' = n' * d) : n = n' ∧ d = d' := by
  have ea : n.natAbs * d'.natAbs = n'.natAbs * d.natAbs := by rw [← Int.natAbs_mul, e, Int.natAbs_mul]
  have h1 : d.natAbs ∣ d'.natAbs := c.symm.dvd_of_dvd_mul_left ⟨n'.natAbs, by rw [ea, Nat.mul_comm]⟩
  have h2 : d'.natAbs ∣ d.natAbs := c'.symm.dvd_of_dvd_mul_left ⟨n.natAbs, by rw [← ea, Nat.mul_comm]⟩
  have h3 : d.natAbs = d'.natAbs := Nat.dvd_antisymm h1 h2
  have h4 : d = d' := by omega
  subst h4
  exact ⟨Int.eq_of_mul_eq_mul_right (by omega) e, rfl⟩
theorem same {t b t' b' : Int} (h : b ≠ 0) (h' : b' ≠ 0) (e : t * b' = t' * b) : top t b = top t' b' ∧ bot t b = bot t' b' := by
  refine uniq (bot_pos h) (bot_pos h') (cop h) (cop h') ?_
  have e1 := top_mul (t := t) h
  have e2 := bot_mul (t := t) h
  have e3 := top_mul (t := t') h'
  have e4 := bot_mul (t := t') h'
  refine Int.eq_of_mul_eq_mul_right (byv_ne (t := t) h) (Int.eq_of_mul_eq_mul_right (byv_ne (t := t') h') ?_)
  calc top t b * bot t' b' * byv t b * byv t' b' = (top t b * byv t b) * (bot t' b' * byv t' b') := by ac_rfl
    _ = t * b' := by rw [e1, e4]
    _ = t' * b := e
    _ = (top t' b' * byv t' b') * (bot t b * byv t b) := by rw [e3, e2]
    _ = top t' b' * bot t b * byv t b * byv t' b' := by ac_rfl
/-- what is in lowest terms stays -/
theorem keeps {n d : Int} (hd : 0 < d) (c : Nat.Coprime n.natAbs d.natAbs) : top n d = n ∧ bot n d = d := by
  have h : d ≠ 0 := by omega
  refine uniq (bot_pos h) hd (cop h) c ?_
  have e1 := top_mul (t := n) h
  have e2 := bot_mul (t := n) h
  refine Int.eq_of_mul_eq_mul_right (byv_ne (t := n) h) ?_
  calc top n d * d * byv n d = (top n d * byv n d) * d := by ac_rfl
    _ = n * d := by rw [e1]
    _ = n * (bot n d * byv n d) := by rw [e2]
    _ = n * bot n d * byv n d := by ac_rfl
theorem one (t : Int) : top t 1 = t ∧ bot t 1 = 1 := keeps (by decide) (Nat.coprime_one_right _)
/-- worth: the fraction is the same number -/
theorem cross {t b : Int} (h : b ≠ 0) : top t b * b = t * bot t b := by
  have e1 := top_mul (t := t) h
  have e2 := bot_mul (t := t) h
  have e : top t b * b = top t b * (bot t b * byv t b) := by rw [e2]
  have e' : t * bot t b = (top t b * byv t b) * bot t b := by rw [e1]
  rw [e, e']; ac_rfl
theorem top_le {t b : Int} (h : b ≠ 0) : (top t b).natAbs ≤ t.natAbs := by
  have e1 : (top t b).natAbs * (byv t b).natAbs = t.natAbs := by rw [← Int.natAbs_mul, top_mul h]
  have : 0 < (byv t b).natAbs := by have := byv_ne (t := t) h; omega
  rw [← e1]; exact Nat.le_mul_of_pos_right _ this
theorem bot_le {t b : Int} (h : b ≠ 0) : (bot t b).natAbs ≤ b.natAbs := by
  have e1 : (bot t b).natAbs * (byv t b).natAbs = b.natAbs := by rw [← Int.natAbs_mul, bot_mul h]
  have : 0 < (byv t b).natAbs := by have := byv_ne (t := t) h; omega
  rw [← e1]; exact Nat.le_mul_of_pos_right _ this
theorem byv_le {t b : Int} (h : b ≠ 0) : (byv t b).natAbs ≤ b.natAbs := by
  rw [byv_natAbs]; exact Nat.le_of_dvd (by omega) (Nat.gcd_dvd_right _ _)
/-- minus and less -/
theorem neg_cop {n d : Int} (c : Nat.Coprime n.natAbs d.natAbs) : Nat.Coprime (0 - n).natAbs d.natAbs := by
  have : (0 - n).natAbs = n.natAbs := by omega
  rw [this]; exact c
/-- distributive, over lowest terms -/
theorem chain {a b c d e f : Int} (hb : b ≠ 0) (hd : d ≠ 0) (hf : f ≠ 0) :
    top (top (a * e) (b * f) * bot (c * e) (d * f) + top (c * e) (d * f) * bot (a * e) (b * f)) (bot (a * e) (b * f) * bot (c * e) (d * f))
      = top (top (a * d + c * b) (b * d) * e) (bot (a * d + c * b) (b * d) * f) ∧
    bot (top (a * e) (b * f) * bot (c * e) (d * f) + top (c * e) (d * f) * bot (a * e) (b * f)) (bot (a * e) (b * f) * bot (c * e) (d * f))
      = bot (top (a * d + c * b) (b * d) * e) (bot (a * d + c * b) (b * d) * f) := by
  have h1 : b * f ≠ 0 := Int.mul_ne_zero hb hf
  have h2 : d * f ≠ 0 := Int.mul_ne_zero hd hf
  have h3 : b * d ≠ 0 := Int.mul_ne_zero hb hd
  have p1 := bot_pos (t := a * e) h1
  have p2 := bot_pos (t := c * e) h2
  have p3 := bot_pos (t := a * d + c * b) h3
  have x1 := cross (t := a * e) h1
  have x2 := cross (t := c * e) h2
  have x3 := cross (t := a * d + c * b) h3
  generalize top (a * e) (b * f) = n1 at *
  generalize bot (a * e) (b * f) = d1 at *
  generalize top (c * e) (d * f) = n2 at *
  generalize bot (c * e) (d * f) = d2 at *
  generalize top (a * d + c * b) (b * d) = n3 at *
  generalize bot (a * d + c * b) (b * d) = d3 at *
  refine same (Int.mul_ne_zero (by omega) (by omega)) (Int.mul_ne_zero (by omega) hf) ?_
  -- (n1 d2 + n2 d1) (d3 f) = (n3 e) (d1 d2)
  refine Int.eq_of_mul_eq_mul_right h3 (Int.eq_of_mul_eq_mul_right hf ?_)
  have L : (n1 * d2 + n2 * d1) * (d3 * f) * (b * d) * f = ((n1 * (b * f)) * (d2 * d * d3) + (n2 * (d * f)) * (d1 * b * d3)) * f := by
    simp only [Int.add_mul, Int.mul_add]
    congr 1 <;> ac_rfl
  have R : n3 * e * (d1 * d2) * (b * d) * f = (n3 * (b * d)) * (e * d1 * d2 * f) := by ac_rfl
  rw [L, R, x1, x2, x3]
  simp only [Int.add_mul, Int.mul_add]
  congr 1 <;> ac_rfl
end RT

set_option Elab.async false
set_option maxRecDepth 100000
namespace RX
open PySem PySem.Spec PyProof.Rows L2
/-- // by a divisor of either sign, below 2 ^ 9000 -/
def CDivZ (_ j : Int) : Prop := j ≠ 0 ∧ j.natAbs.log2 < 9000
theorem op_fdivZ {X : Cx} : OpR X (binaryOp .FloorDiv) (rI CDivZ fun i j => .int (i.fdiv j)) := opI fun _ _ _ _ _ _ _ hc q => floordiv_int hc.1 q (.inl (PyProof.noPylong_of_log2 hc.2))
theorem divZ {i j : Int} {b : Nat} (h : j ≠ 0) (hb : j.natAbs < 2 ^ b) (h0 : 0 < b) (h9 : b ≤ 9000) : CDivZ i j := ⟨h, Nat.lt_of_lt_of_le (PySem.Flt.log2_lt_of h0 hb) h9⟩
/-- the class at C has the operator op as the def at f -/
structure OpOf (K : PySem.W.Frag) (C : Addr) (x : Str) (f : Addr) : Prop where
  first : PySem.W.selfFirst K C = true
  at_ : PySem.W.findIn K (.ref C) x = some (some (.ref f))
  fn : PySem.W.isFn K (.ref f) = true
/-- a op b, both instances of the class at C: what the operator's def promises; it hands back an object -/
def rOwn (C : Addr) (sp : Sp) (E : XK) : R2 := fun x y H Q => ∃ a b dx dy fs gs, x = .ref a ∧ y = .ref b ∧ H a = some (.ins C dx fs) ∧ H b = some (.ins C dy gs) ∧ sp [.ref a, .ref b] H (fun v H' => (∃ c, v = .ref c) ∧ Q v H') E
def rOwn1 (C : Addr) (sp : Sp) (E : XK) : V → Hp → VK → Prop := fun x H Q => ∃ a dx fs, x = .ref a ∧ H a = some (.ins C dx fs) ∧ sp [.ref a] H Q E
section
variable {X : Cx} {CX : CXT} {k : Nat} {C f : Addr} {fd : FuncData} {ps : List Str} {sp : Sp} {E : XK}
theorem op_own {op : Operator} (O : OpOf X.K C (PySem.dunder op.info.2) f) (F : FnOk X.prog X.w X.K X.mg X.base CX k f fd ps sp) (hr : Room k X.A) (hb : Binds X.K fd ps []) (hx : Passes CX X E) : OpR X (binaryOp op) (rOwn C sp E) := by
  intro pins s σ H x y v u Q I rx ry h
  obtain ⟨a, b, dx, dy, fs, gs, rfl, rfl, ha, hb', hs⟩ := h
  cases rx
  cases ry
  obtain ⟨mA, J, _⟩ := ins_get I.hok ha
  obtain ⟨mB, J', _⟩ := ins_get I.hok hb'
  obtain ⟨od, J, _⟩ := J.look
  obtain ⟨od', J', _⟩ := J'.look
  obtain ⟨m, hF⟩ := I.fr
  refine PySem.W.binop_K hF I.ok.mod.kin J J'.type O.first O.at_ O.fn ?_
  refine thn (run_fn (us := [.ref a, .ref b]) (vs := [.ref a, .ref b]) (dvs := []) (ds := []) F hr hb .nil hx I (.cons rfl (.cons rfl .nil)) hs) fun w' s' hq => ?_
  obtain ⟨z, H', I', rz, ⟨c, ez⟩, q⟩ := hq
  subst ez
  cases rz
  exact ⟨.ref c, H', I', rfl, q⟩
theorem un_own {op : UnaryOp} (h1 : op = .USub) (hs : PySem.W.findIn X.K (.ref C) "__neg__" = some (some (.ref f))) (hf : PySem.W.isFn X.K (.ref f) = true) (F : FnOk X.prog X.w X.K X.mg X.base CX k f fd ps sp) (hr : Room k X.A) (hb : Binds X.K fd ps []) (hx : Passes CX X E) : UnR X (unaryOp op) (rOwn1 C sp E) := by
  subst h1
  intro pins s σ H x v Q I rx h
  obtain ⟨a, dx, fs, rfl, ha, hsp⟩ := h
  cases rx
  obtain ⟨mA, J, _⟩ := ins_get I.hok ha
  obtain ⟨od, J, _⟩ := J.look
  obtain ⟨m, hF⟩ := I.fr
  refine PySem.W.ksp_neg hF I.ok.mod.kin J hs hf ?_
  exact run_fn (us := [.ref a]) (vs := [.ref a]) (dvs := []) (ds := []) F hr hb .nil hx I (.cons rfl .nil) hsp
end
end RX

set_option Elab.async false
set_option maxRecDepth 100000
namespace RX
open PySem L2
def topS (i : Nat) : Stmt := PySem.Challenge.pw_wordworth_k27_read_sum.main.body.getD i (.Pass ⟨0, 0, 0, 0⟩)
abbrev sInit : Stmt := inClass (topS 15) 0
abbrev sAdd : Stmt := inClass (topS 15) 1
abbrev sSub : Stmt := inClass (topS 15) 2
abbrev sMul : Stmt := inClass (topS 15) 3
abbrev sNeg : Stmt := inClass (topS 15) 4
/-! ### a Ratio -/
theorem tb : ¬ (("top" : Str) = "bottom") := by decide +kernel
def rf (n d : Int) : List (Str × V) := putF "bottom" (.int d) (putF "top" (.int n) [])
theorem rf_top (n d : Int) : (rf n d).lookup ("top" : Str) = some (.int n) := by
  unfold rf
  rw [lookup_putF, if_neg tb, lookup_putF, if_pos rfl]
theorem rf_bot (n d : Int) : (rf n d).lookup ("bottom" : Str) = some (.int d) := by
  unfold rf
  rw [lookup_putF, if_pos rfl]
theorem rf_no (n d : Int) {m : Str} (h1 : ¬ m = "bottom") (h2 : ¬ m = "top") : (rf n d).lookup m = none := by
  unfold rf
  rw [lookup_putF, if_neg h1, lookup_putF, if_neg h2]
  all_goals rfl
/-- the Ratio n / d stands at p -/
def RatAt (C : Addr) (H : Hp) (p : Addr) (n d : Int) : Prop := ∃ dx, H p = some (.ins C dx (rf n d))
theorem RatAt.same {C : Addr} {H H' : Hp} {p : Addr} {n d : Int} (s : Same H H') (h : RatAt C H p n d) : RatAt C H' p n d := let ⟨dx, e⟩ := h; ⟨dx, s _ _ e⟩
theorem Same.upd {H : Hp} {p : Addr} {o : HO} (h : H p = none) : Same H (upd H p o) := fun b x e => by
  rw [upd_ne (ne_of_none e h)]
  exact e
/-- of at most 4400 bits -/
def Sm (x : Int) : Prop := x.natAbs < 2 ^ 4400
/-- of at most 8900 bits -/
def Md (x : Int) : Prop := x.natAbs < 2 ^ 8900
theorem Sm.mul {x y : Int} (a : Sm x) (b : Sm y) : x.natAbs * y.natAbs < 2 ^ 8800 := by
  have := Nat.mul_lt_mul'' a b
  rw [← Nat.pow_add] at this
  exact this
theorem Sm.w {x y : Int} (a : Sm x) (b : Sm y) : CMulW x y := wide_mul a b (by decide) (by decide) (by decide)
theorem Sm.md {x y : Int} (a : Sm x) (b : Sm y) : Md (x * y) := by
  unfold Md
  rw [Int.natAbs_mul]
  exact Nat.lt_trans (Sm.mul a b) (Nat.pow_lt_pow_right (by decide) (by decide))
/-! ### promises -/
def spInit (C : Addr) : Sp := fun vs H Q _ => ∃ (p dx : Addr) (t b : Int), vs = [.ref p, .int t, .int b] ∧ H p = some (.ins C dx []) ∧ b ≠ 0 ∧ Md b ∧
  ∀ H' : Hp, RatAt C H' p (RT.top t b) (RT.bot t b) → (∀ c o, H c = some o → c ≠ p → H' c = some o) → Q .non H'
/-- of two Ratios: a new one -/
def spBin (C : Addr) (g g' : Int → Int → Int → Int → Int) : Sp := fun vs H Q _ => ∃ (p q : Addr) (n d m e : Int), vs = [.ref p, .ref q] ∧ RatAt C H p n d ∧ RatAt C H q m e ∧ d ≠ 0 ∧ e ≠ 0 ∧ Sm n ∧ Sm d ∧ Sm m ∧ Sm e ∧
  ∀ (r : Addr) (H' : Hp), Same H H' → H r = none → RatAt C H' r (RT.top (g n d m e) (g' n d m e)) (RT.bot (g n d m e) (g' n d m e)) → Q (.ref r) H'
def spAdd (C : Addr) : Sp := spBin C (fun n d m e => n * e + m * d) (fun _ d _ e => d * e)
def spSub (C : Addr) : Sp := spBin C (fun n d m e => n * e - m * d) (fun _ d _ e => d * e)
def spMul (C : Addr) : Sp := spBin C (fun n _ m _ => n * m) (fun _ d _ e => d * e)
def spNeg (C : Addr) : Sp := fun vs H Q _ => ∃ (p : Addr) (n d : Int), vs = [.ref p] ∧ RatAt C H p n d ∧ d ≠ 0 ∧ Sm d ∧
  ∀ (r : Addr) (H' : Hp), Same H H' → H r = none → RatAt C H' r (RT.top (-n) d) (RT.bot (-n) d) → Q (.ref r) H'
structure TxtR (K : PySem.W.Frag) (mg : Str → Option Value) (C : Addr) : Prop where
  cl : Cls K C
  nT : NoAttr K C "top"
  nB : NoAttr K C "bottom"
  mgC : mg "Ratio" = some (.ref C)
  gcd : mg "gcd" = some (.builtin "math.gcd")
section
variable {P : Program} {w : World} {K : PySem.W.Frag} {mg : Str → Option Value} {base : Heap}
theorem scI : FnScope ["self", "top", "bottom", "shared", "by"] ["self", "top", "bottom"] (defScope sInit) := ⟨rfl, rfl, rfl, by decide +kernel, rfl, by decide +kernel, by decide +kernel⟩
theorem ok_init {f C : Addr} {fd : FuncData} (F : FunD K "__init__" "Ratio.__init__" (defArgs sInit) (defBody sInit) (defScope sInit) [.int 1] [] f fd) (T : TxtR K mg C) : FnOk P w K mg base CX0 1 f fd ["self", "top", "bottom"] (spInit C) := by
  refine F.ok scI (fun vs H Q E h => ?_) (fun cdv A outer s H vs Q E hr h => ?_)
  · obtain ⟨p, dx, t, b, rfl, _⟩ := h
    rfl
  · obtain ⟨p, dx, t, b, rfl, hp, hb, hz, k⟩ := h
    refine ⟨_, pss_cons (ps_if (pt_cmpR op_eq (pv 2) pe_int (nomark _)) (pss_one ps_never) pss_nil)
      (pss_cons (ps_set (i := 3) scI.nd rfl (Or.inl rfl) (pe_callBfun cr_gcd (by rfl) T.gcd (pa_cons (pv 1) (pa_cons (pv 2) pa_nil))))
      (pss_cons (ps_set (i := 4) scI.nd rfl (Or.inl rfl) (pe_ifExp (pt_cmpR op_gt (pv 2) pe_int (nomark _)) (pv 3) (pe_un un_neg (pv 3))))
      (pss_cons (ps_fld (pv 0) (pe_op op_fdivZ (pv 1) (pv 4)) rfl)
      (pss_one (ps_fld (pv 0) (pe_op op_fdivZ (pv 2) (pv 4)) rfl))))), ?_⟩
    refine ⟨_, rfl, rfl, _, rfl, ?_⟩
    refine ite2 (fun z => ?_) (fun _ => ?_)
    · have z' := of_decide_eq_true z
      injection z' with z'
      exact absurd z' hb
    refine ⟨_, rfl, _, rfl, t, b, rfl, ?_⟩
    refine ⟨_, rfl, _, _, rfl, rfl, _, rfl, ?_⟩
    have by_ne := RT.byv_ne (t := t) hb
    have by_le := RT.byv_le (t := t) hb
    have hdiv : ∀ x y : Int, y = RT.byv t b → CDivZ x y := fun x y e => by
      subst e
      exact divZ by_ne (Nat.lt_of_le_of_lt by_le hz) (by decide) (by decide)
    have key : (if decide (b > 0) = true then RT.gg t b else -RT.gg t b) = RT.byv t b := by
      unfold RT.byv
      by_cases h0 : b > 0
      · rw [if_pos h0, if_pos (decide_eq_true h0)]
      · rw [if_neg h0, if_neg (by rw [decide_eq_false h0]; exact Bool.false_ne_true)]
    have fin : ∀ x : Int, x = RT.byv t b → Q .non (upd (upd H p (.ins C dx (putF "top" (.int (t.fdiv x)) []))) p (.ins C dx (putF "bottom" (.int (b.fdiv x)) (putF "top" (.int (t.fdiv x)) [])))) := fun x e => by
      subst e
      refine k _ ⟨dx, upd_same⟩ fun c o hc ne => ?_
      rw [upd_ne ne, upd_ne ne]
      exact hc
    refine ite2 (fun z => ?_) (fun z => ?_)
    · rw [if_pos z] at key
      refine ⟨_, rfl, _, rfl, _, rfl, _, _, rfl, rfl, (hdiv t _ key), _, rfl, p, C, dx, [], rfl, hp, T.cl, T.nT, (by show 0 < 1000; decide), ?_⟩
      exact ⟨_, rfl, _, rfl, _, _, rfl, rfl, (hdiv b _ key), _, rfl, p, C, dx, _, rfl, upd_same, T.cl, T.nB, (by show 1 < 1000; decide), fin _ key⟩
    · rw [if_neg z] at key
      refine ⟨_, rfl, _, rfl, _, rfl, _, rfl, _, _, rfl, rfl, (hdiv t _ key), _, rfl, p, C, dx, [], rfl, hp, T.cl, T.nT, (by show 0 < 1000; decide), ?_⟩
      exact ⟨_, rfl, _, rfl, _, _, rfl, rfl, (hdiv b _ key), _, rfl, p, C, dx, _, rfl, upd_same, T.cl, T.nB, (by show 1 < 1000; decide), fin _ key⟩
/-- Ratio(t, b), both written: the rule's own question answered -/
theorem make_in {C : Addr} {H : Hp} {t b : Int} {Q : VK} {E : XK} (hb : b ≠ 0) (hz : Md b) (k : ∀ (r : Addr) (H' : Hp), Same H H' → H r = none → RatAt C H' r (RT.top t b) (RT.bot t b) → Q (.ref r) H') :
    ∀ x dx, H x = none → H dx = none → dx ≠ x → spInit C (.ref x :: ([.int t, .int b] ++ [])) (upd (upd H dx (.own x)) x (.ins C dx [])) (fun v H2 => v = .non ∧ Q (.ref x) H2) E := by
  intro x dx nx nd ne
  exact ⟨x, dx, t, b, rfl, upd_same, hb, hz, fun H' hR kp => ⟨rfl, k x H' (Same.made nx nd kp) nx hR⟩⟩
theorem scA : FnScope ["self", "other", "top"] ["self", "other"] (defScope sAdd) := ⟨rfl, rfl, rfl, by decide +kernel, rfl, by decide +kernel, by decide +kernel⟩
theorem scS : FnScope ["self", "other", "top"] ["self", "other"] (defScope sSub) := ⟨rfl, rfl, rfl, by decide +kernel, rfl, by decide +kernel, by decide +kernel⟩
theorem scM : FnScope ["self", "other"] ["self", "other"] (defScope sMul) := ⟨rfl, rfl, rfl, by decide +kernel, rfl, by decide +kernel, by decide +kernel⟩
theorem scN : FnScope ["self"] ["self"] (defScope sNeg) := ⟨rfl, rfl, rfl, by decide +kernel, rfl, by decide +kernel, by decide +kernel⟩
section
variable {f fI C : Addr} {fd fdI : FuncData} {k : Nat} (T : TxtR K mg C) (M : Mk K C fI) (GI : FnOk P w K mg base CX0 1 fI fdI ["self", "top", "bottom"] (spInit C)) (bI : Binds K fdI ["self", "top", "bottom"] [])
include T M GI bI
theorem ok_add (F : Fun K "__add__" "Ratio.__add__" sAdd f fd) : FnOk P w K mg base CX0 3 f fd ["self", "other"] (spAdd C) := by
  refine F.ok scA (fun vs H Q E h => ?_) (fun cdv A outer s H vs Q E hr h => ?_)
  · obtain ⟨p, q, n, d, m, e, rfl, _⟩ := h
    rfl
  · obtain ⟨p, q, n, d, m, e, rfl, ⟨dx, hp⟩, ⟨dy, hq⟩, hd, he, sn, sd, sm, se, kk⟩ := h
    refine ⟨_, pss_cons (ps_set (i := 2) scA.nd rfl (Or.inl rfl) (pe_op op_add (pe_op op_mulW (pe_fld (pv 0) rfl) (pe_fld (pv 1) rfl)) (pe_op op_mulW (pe_fld (pv 1) rfl) (pe_fld (pv 0) rfl))))
      (pss_one (ps_ret (pe_make M GI hr rfl T.mgC bI .nil pass0 (pa_cons (pv 2) (pa_cons (pe_op op_mulW (pe_fld (pv 0) rfl) (pe_fld (pv 1) rfl)) pa_nil))))), ?_⟩
    refine ⟨_, rfl, p, C, dx, _, _, rfl, hp, T.cl, T.nT, rf_top _ _, _, rfl, q, C, dy, _, _, rfl, hq, T.cl, T.nB, rf_bot _ _, _, _, rfl, rfl, Sm.w sn se,
      _, rfl, q, C, dy, _, _, rfl, hq, T.cl, T.nT, rf_top _ _, _, rfl, p, C, dx, _, _, rfl, hp, T.cl, T.nB, rf_bot _ _, _, _, rfl, rfl, Sm.w sm sd, _, _, rfl, rfl, ?_⟩
    refine ⟨_, rfl, _, rfl, p, C, dx, _, _, rfl, hp, T.cl, T.nB, rf_bot _ _, _, rfl, q, C, dy, _, _, rfl, hq, T.cl, T.nB, rf_bot _ _, _, _, rfl, rfl, Sm.w sd se, ?_⟩
    exact make_in (Int.mul_ne_zero hd he) (Sm.md sd se) kk
theorem ok_sub (F : Fun K "__sub__" "Ratio.__sub__" sSub f fd) : FnOk P w K mg base CX0 3 f fd ["self", "other"] (spSub C) := by
  refine F.ok scS (fun vs H Q E h => ?_) (fun cdv A outer s H vs Q E hr h => ?_)
  · obtain ⟨p, q, n, d, m, e, rfl, _⟩ := h
    rfl
  · obtain ⟨p, q, n, d, m, e, rfl, ⟨dx, hp⟩, ⟨dy, hq⟩, hd, he, sn, sd, sm, se, kk⟩ := h
    refine ⟨_, pss_cons (ps_set (i := 2) scS.nd rfl (Or.inl rfl) (pe_op op_sub (pe_op op_mulW (pe_fld (pv 0) rfl) (pe_fld (pv 1) rfl)) (pe_op op_mulW (pe_fld (pv 1) rfl) (pe_fld (pv 0) rfl))))
      (pss_one (ps_ret (pe_make M GI hr rfl T.mgC bI .nil pass0 (pa_cons (pv 2) (pa_cons (pe_op op_mulW (pe_fld (pv 0) rfl) (pe_fld (pv 1) rfl)) pa_nil))))), ?_⟩
    refine ⟨_, rfl, p, C, dx, _, _, rfl, hp, T.cl, T.nT, rf_top _ _, _, rfl, q, C, dy, _, _, rfl, hq, T.cl, T.nB, rf_bot _ _, _, _, rfl, rfl, Sm.w sn se,
      _, rfl, q, C, dy, _, _, rfl, hq, T.cl, T.nT, rf_top _ _, _, rfl, p, C, dx, _, _, rfl, hp, T.cl, T.nB, rf_bot _ _, _, _, rfl, rfl, Sm.w sm sd, _, _, rfl, rfl, ?_⟩
    refine ⟨_, rfl, _, rfl, p, C, dx, _, _, rfl, hp, T.cl, T.nB, rf_bot _ _, _, rfl, q, C, dy, _, _, rfl, hq, T.cl, T.nB, rf_bot _ _, _, _, rfl, rfl, Sm.w sd se, ?_⟩
    exact make_in (Int.mul_ne_zero hd he) (Sm.md sd se) kk
theorem ok_mul (F : Fun K "__mul__" "Ratio.__mul__" sMul f fd) : FnOk P w K mg base CX0 3 f fd ["self", "other"] (spMul C) := by
  refine F.ok scM (fun vs H Q E h => ?_) (fun cdv A outer s H vs Q E hr h => ?_)
  · obtain ⟨p, q, n, d, m, e, rfl, _⟩ := h
    rfl
  · obtain ⟨p, q, n, d, m, e, rfl, ⟨dx, hp⟩, ⟨dy, hq⟩, hd, he, sn, sd, sm, se, kk⟩ := h
    refine ⟨_, pss_one (ps_ret (pe_make M GI hr rfl T.mgC bI .nil pass0 (pa_cons (pe_op op_mulW (pe_fld (pv 0) rfl) (pe_fld (pv 1) rfl)) (pa_cons (pe_op op_mulW (pe_fld (pv 0) rfl) (pe_fld (pv 1) rfl)) pa_nil)))), ?_⟩
    refine ⟨_, rfl, p, C, dx, _, _, rfl, hp, T.cl, T.nT, rf_top _ _, _, rfl, q, C, dy, _, _, rfl, hq, T.cl, T.nT, rf_top _ _, _, _, rfl, rfl, Sm.w sn sm, ?_⟩
    refine ⟨_, rfl, p, C, dx, _, _, rfl, hp, T.cl, T.nB, rf_bot _ _, _, rfl, q, C, dy, _, _, rfl, hq, T.cl, T.nB, rf_bot _ _, _, _, rfl, rfl, Sm.w sd se, ?_⟩
    exact make_in (Int.mul_ne_zero hd he) (Sm.md sd se) kk
theorem ok_neg (F : Fun K "__neg__" "Ratio.__neg__" sNeg f fd) : FnOk P w K mg base CX0 3 f fd ["self"] (spNeg C) := by
  refine F.ok scN (fun vs H Q E h => ?_) (fun cdv A outer s H vs Q E hr h => ?_)
  · obtain ⟨p, n, d, rfl, _⟩ := h
    rfl
  · obtain ⟨p, n, d, rfl, ⟨dx, hp⟩, hd, sd, kk⟩ := h
    refine ⟨_, pss_one (ps_ret (pe_make M GI hr rfl T.mgC bI .nil pass0 (pa_cons (pe_un un_neg (pe_fld (pv 0) rfl)) (pa_cons (pe_fld (pv 0) rfl) pa_nil)))), ?_⟩
    refine ⟨_, rfl, p, C, dx, _, _, rfl, hp, T.cl, T.nT, rf_top _ _, _, rfl, ?_⟩
    refine ⟨_, rfl, p, C, dx, _, _, rfl, hp, T.cl, T.nB, rf_bot _ _, ?_⟩
    exact make_in hd (Nat.lt_trans sd (Nat.pow_lt_pow_right (by decide) (by decide))) kk
end
end
end RX

set_option Elab.async false
set_option maxRecDepth 100000
namespace RX
open PySem L2
/-! ### the draws -/
abbrev sFeed : Stmt := topS 29
abbrev sDraw : Stmt := topS 30
abbrev sGreat : Stmt := topS 31
/-- the feed stands at a: its cells, the next place, what is left of a great cell, the seed -/
structure FeedIs (H : Hp) (a cl : Addr) (cs : List Int) (i p s : Int) : Prop where
  hA : H a = some (.lst [.ref cl, .int i, .int p, .int s])
  hC : H cl = some (.lst (cs.map V.int))
  ne : cl ≠ a
  i0 : 0 ≤ i
  p0 : 0 ≤ p
  s0 : 0 ≤ s
  s1 : s < 2147483648
  len : cs.length ≤ 63
  nn : ∀ c ∈ cs, 0 ≤ c
def FeedAt (H : Hp) (a cl : Addr) : Prop := ∃ cs i p s, FeedIs H a cl cs i p s
/-- all but what stands at a is as it was -/
def But (a : Addr) (H H' : Hp) : Prop := ∀ b o, H b = some o → b ≠ a → H' b = some o
theorem But.refl (a : Addr) (H : Hp) : But a H H := fun _ _ h _ => h
theorem But.trans {a : Addr} {H H1 H2 : Hp} (x : But a H H1) (y : But a H1 H2) : But a H H2 := fun b o h n => y b o (x b o h n) n
theorem Same.but {a : Addr} {H H1 : Hp} (x : Same H H1) : But a H H1 := fun b o h _ => x b o h
theorem But.upd (a : Addr) (H : Hp) (o : HO) : But a H (L2.upd H a o) := fun b o' h n => by rw [upd_ne n]; exact h
theorem FeedIs.same {H H' : Hp} {a cl : Addr} {cs : List Int} {i p s : Int} (h : FeedIs H a cl cs i p s) (x : Same H H') : FeedIs H' a cl cs i p s :=
  ⟨x _ _ h.hA, x _ _ h.hC, h.ne, h.i0, h.p0, h.s0, h.s1, h.len, h.nn⟩
theorem FeedAt.same {H H' : Hp} {a cl : Addr} (h : FeedAt H a cl) (x : Same H H') : FeedAt H' a cl := let ⟨cs, i, p, s, f⟩ := h; ⟨cs, i, p, s, f.same x⟩
/-- the feed's list written anew -/
theorem FeedIs.put {H : Hp} {a cl : Addr} {cs : List Int} {i p s i' p' s' : Int} (h : FeedIs H a cl cs i p s) (i0 : 0 ≤ i') (p0 : 0 ≤ p') (s0 : 0 ≤ s') (s1 : s' < 2147483648) :
    FeedIs (upd H a (.lst [.ref cl, .int i', .int p', .int s'])) a cl cs i' p' s' :=
  ⟨upd_same, by rw [upd_ne h.ne]; exact h.hC, h.ne, i0, p0, s0, s1, h.len, h.nn⟩
def spFeed (K : PySem.W.Frag) : Sp := fun vs H Q _ => ∃ (a : Addr) (ns : List Int), vs = [.ref a] ∧ SqL K H a (ns.map V.int) ∧ ns.length ≤ 63 ∧ ∀ (r cl : Addr) (H' : Hp), Same H H' → H r = none → H cl = none → FeedAt H' r cl → Q (.ref r) H'
def spDraw : Sp := fun vs H Q _ => ∃ (a cl : Addr) (m : Int), vs = [.ref a, .int m] ∧ FeedAt H a cl ∧ 0 < m ∧ m < 1073741824 ∧ ∀ (r : Int) (H' : Hp), 0 ≤ r → r < m → FeedAt H' a cl → But a H H' → Q (.int r) H'
def spGreat : Sp := fun vs H Q _ => ∃ (a cl : Addr) (m : Int), vs = [.ref a, .int m] ∧ FeedAt H a cl ∧ 0 ≤ m ∧ m ≤ 100 ∧ ∀ (r : Int) (H' : Hp), 0 ≤ r → r < 100000 ^ m.toNat → FeedAt H' a cl → But a H H' → Q (.int r) H'
structure TxtL (mg : Str → Option Value) : Prop where
  abs : mg "abs" = none
  len : mg "len" = none
  int : mg "int" = none
  max : mg "max" = none
  range : mg "range" = none
  isi : mg "isinstance" = none
  bool : mg "bool" = none
section
variable {P : Program} {w : World} {K : PySem.W.Frag} {mg : Str → Option Value} {base : Heap}
theorem scFe : FnScope ["script", "cell"] ["script"] (defScope sFeed) := ⟨rfl, rfl, rfl, by decide +kernel, rfl, by decide +kernel, by decide +kernel⟩
theorem cut63 (xs : List V) (h : xs.length ≤ 63) : cutV xs none (some 63) = xs := by
  unfold cutV
  rw [show HT.sIx xs.length xs.length (some 63) = min 63 xs.length from HT.sIx_nat xs.length xs.length 63, HT.sIx_none, Nat.min_eq_right h, List.drop_zero, Nat.sub_zero]
  exact List.take_length
theorem ok_feed {f : Addr} {fd : FuncData} (F : Fun K "_law_feed" "_law_feed" sFeed f fd) (T : TxtL mg) : FnOk P w K mg base CX0 1 f fd ["script"] (spFeed K) := by
  refine F.ok scFe (fun vs H Q E h => ?_) (fun cdv A outer s H vs Q E hr h => ?_)
  · obtain ⟨a, ns, rfl, _⟩ := h
    rfl
  · obtain ⟨a, ns, rfl, hS, hl, k⟩ := h
    refine ⟨_, pss_one (ps_ret (pe_lst (pa_cons (pe_lc (own := [("cell", 1)]) (g := gName 1) (tt := tYes) rfl scFe.nd (pi_list (pe_slice sl_list (pv 0) po_none (po_some pe_int))) (blkOk_by (N := ["script", "cell"]) (sc := defScope sFeed) (by decide +kernel))
        (fun _ _ _ _ _ => pg_name (i := 1) scFe.nd rfl (Or.inl rfl)) (fun _ _ _ _ _ => pts_nil) (fun _ _ _ _ _ => pe_callB call_abs (by rfl) T.abs (by decide +kernel) (pa_cons (pv 1) pa_nil)))
      (pa_cons pe_int (pa_cons pe_int (pa_cons (pe_op op_add pe_int (pe_callB call_len_seq (by rfl) T.len PySem.boot_len (pa_cons (pv 0) pa_nil))) pa_nil)))))), ?_⟩
    refine ⟨.ref a, rfl, 63, rfl, a, ns.map V.int, rfl, hS, fun c nc => ?_⟩
    rw [cut63 _ (by rw [List.length_map]; exact hl)]
    have s1 : Same H (upd H c (.lst (ns.map V.int))) := Same.upd nc
    refine ⟨c, rfl, ⟨_, SqL.of upd_same⟩, fun D nD => ?_⟩
    have ncD : c ≠ D := ne_of_none upd_same nD
    have nD0 : H D = none := s1.free nD
    refine lc_list (K := K) (a := c) (xs := ns.map V.int) (fun i H2 => Same H H2 ∧ H2 c = some (.lst (ns.map V.int)) ∧ H2 D = some (.lst (((ns.take i).map fun z => if z < 0 then -z else z).map V.int))) ⟨s1.trans (Same.upd nD), by rw [upd_ne ncD]; exact upd_same, upd_same⟩ (fun i H2 _ h => SqL.of h.2.1) ?_ ?_
    · rintro i x H2 hi ⟨s2, hq, hD⟩
      obtain ⟨z, hz, rfl⟩ : ∃ z, ns[i]? = some z ∧ V.int z = x := by
        rw [List.getElem?_map] at hi
        cases e : ns[i]? with
        | none => rw [e] at hi; cases hi
        | some z => rw [e] at hi; exact ⟨z, rfl, Option.some.inj hi⟩
      have hi63 : i < ns.length := (List.getElem?_eq_some_iff.mp hz).1
      refine ⟨rfl, ?_⟩
      refine ⟨_, rfl, z, rfl, _, hD, ?_, ?_⟩
      · rw [List.length_map, List.length_map, List.length_take]
        exact Nat.lt_of_le_of_lt (Nat.min_le_left _ _) (small1000 (by omega))
      · refine ⟨fun b o e => ?_, by rw [upd_ne ncD]; exact hq, ?_⟩
        · rw [upd_ne (ne_of_none e nD0)]
          exact s2 _ _ e
        · rw [upd_same, List.take_add_one, hz, List.map_append, List.map_append]
          rfl
    · rintro H2 ⟨s2, hq, hD⟩
      rw [List.length_map, List.take_length] at hD
      refine ⟨_, rfl, a, _, rfl, .inl (s2.seq hS), _, _, rfl, rfl, (by show 4 ≤ sizeLine; decide), fun r nr => ?_⟩
      have nDr : D ≠ r := ne_of_none hD nr
      refine k r D _ (s2.trans (Same.upd nr)) (s2.free nr) nD0 ⟨ns.map fun z => if z < 0 then -z else z, 0, 0, _, upd_same, by rw [upd_ne nDr]; exact hD, nDr, by omega, by omega, ?_, ?_, ?_, ?_⟩
      · rw [List.length_map]; omega
      · rw [List.length_map]; omega
      · rw [List.length_map]; exact hl
      · intro c hc
        obtain ⟨z, _, rfl⟩ := List.mem_map.mp hc
        show (0 : Int) ≤ if z < 0 then -z else z
        split <;> omega
theorem scDr : FnScope ["feed", "limit", "cells", "cell", "found"] ["feed", "limit"] (defScope sDraw) := ⟨rfl, rfl, rfl, by decide +kernel, rfl, by decide +kernel, by decide +kernel⟩
theorem ok_draw {f : Addr} {fd : FuncData} (F : Fun K "_law_draw" "_law_draw" sDraw f fd) (T : TxtL mg) : FnOk P w K mg base CX0 1 f fd ["feed", "limit"] spDraw := by
  refine F.ok scDr (fun vs H Q E h => ?_) (fun cdv A outer s H vs Q E hr h => ?_)
  · obtain ⟨a, cl, m, rfl, _⟩ := h
    rfl
  · obtain ⟨a, cl, m, rfl, ⟨cs, i, p, s, f0⟩, hm, hm2, k⟩ := h
    refine ⟨_, pss_cons (ps_set (i := 2) scDr.nd rfl (.inl rfl) (pe_ix ix_list (pv 0) pe_int (fun _ _ => rfl)))
      (C8.pss_cut (ps_if (PW.pt (pw_and (pt_cmpR op_eq (pe_ix ix_list (pv 0) pe_int (fun _ _ => rfl)) pe_int (nomark _)) (pw_and1 (pt_cmpR op_lt (pe_ix ix_list (pv 0) pe_int (fun _ _ => rfl)) (pe_callB call_len_seq (by rfl) T.len PySem.boot_len (pa_cons (pv 2) pa_nil)) (nomark _)))))
        (pss_cons (ps_set (i := 3) scDr.nd rfl (.inl rfl) (pe_ix ix_list (pv 2) (pe_ix ix_list (pv 0) pe_int (fun _ _ => rfl)) (fun _ _ => rfl)))
        (pss_cons (ps_asg (pe_op op_add (pe_ix ix_list (pv 0) pe_int (fun _ _ => rfl)) pe_int) (pg_sub (pv 0) pe_int set_list))
        (pss_one (ps_if (pt_cmpR op_ge (pv 3) (pe_op op_pow pe_int pe_int) (nomark _))
          (pss_one (ps_asg (pv 3) (pg_sub (pv 0) pe_int set_list)))
          (pss_one (ps_asg (pe_op op_mod (pe_callTy call_int1 (by rfl) T.int (by decide +kernel) (pa_cons (pe_op op_add (pe_op op_add (pe_op op_mul (pe_ix ix_list (pv 0) pe_int (fun _ _ => rfl)) pe_int) (pe_op op_mul (pv 3) pe_int)) pe_int) pa_nil)) pe_int) (pg_sub (pv 0) pe_int set_list)))))))
        pss_nil)
      (C8.pss_cut (ps_if (pt_cmpR op_gt (pe_ix ix_list (pv 0) pe_int (fun _ _ => rfl)) pe_int (nomark _))
        (pss_cons (ps_set (i := 4) scDr.nd rfl (.inl rfl) (pe_op op_mod (pe_callTy call_int1 (by rfl) T.int (by decide +kernel) (pa_cons (pe_ix ix_list (pv 0) pe_int (fun _ _ => rfl)) pa_nil)) (pv 1)))
        (pss_cons (ps_asg (pe_op op_fdiv (pe_ix ix_list (pv 0) pe_int (fun _ _ => rfl)) (pv 1)) (pg_sub (pv 0) pe_int set_list))
        (pss_one (ps_ret (pv 4)))))
        pss_nil)
      (pss_cons (ps_asg (pe_op op_mod (pe_callTy call_int1 (by rfl) T.int (by decide +kernel) (pa_cons (pe_op op_add (pe_op op_mul (pe_ix ix_list (pv 0) pe_int (fun _ _ => rfl)) pe_int) pe_int) pa_nil)) pe_int) (pg_sub (pv 0) pe_int set_list))
      (pss_one (ps_ret (pe_op op_mod (pe_callTy call_int1 (by rfl) T.int (by decide +kernel) (pa_cons (pe_op op_add (pe_op op_fdiv (pe_op op_mul (pe_ix ix_list (pv 0) pe_int (fun _ _ => rfl)) (pe_ix ix_list (pv 0) pe_int (fun _ _ => rfl))) pe_int) (pe_op op_fdiv (pe_ix ix_list (pv 0) pe_int (fun _ _ => rfl)) pe_int)) pa_nil)) (pv 1))))))), ?_⟩
    -- cells = feed[0]
    refine ⟨_, rfl, a, _, 0, _, rfl, rfl, SqL.of f0.hA, rfl, ?_⟩
    -- behind the first if: the feed again
    refine ⟨fun σ' H' => ∃ x2 x3 x4, σ' = [some (.ref a), some (.int m), x2, x3, x4] ∧ FeedAt H' a cl ∧ But a H H', ?_, ?_⟩
    · refine ⟨_, rfl, a, _, 2, _, rfl, rfl, SqL.of f0.hA, rfl, rfl, _, rfl, ?_⟩
      refine ite2 (fun _ => ?_) (fun _ => ?_)
      · refine ⟨_, rfl, a, _, 1, _, rfl, rfl, SqL.of f0.hA, rfl, _, rfl, cl, _, rfl, .inl (SqL.of f0.hC), _, _, rfl, rfl, _, rfl, ?_⟩
        refine ite2 (fun z => ?_) (fun _ => ?_)
        · have z := of_decide_eq_true z
          rw [List.length_map] at z
          have hi : (i.toNat : Int) = i := Int.toNat_of_nonneg f0.i0
          have hlt : i.toNat < cs.length := by omega
          have hc : (cs.map V.int)[i.toNat]? = some (V.int cs[i.toNat]) := by
            rw [List.getElem?_map, List.getElem?_eq_getElem hlt]
            rfl
          have c0 : 0 ≤ cs[i.toNat] := f0.nn _ (List.getElem_mem hlt)
          generalize hcv : cs[i.toNat] = cv at hc c0
          have f1 := f0.put (i' := i + 1) (by have := f0.i0; omega) f0.p0 f0.s0 f0.s1
          refine ⟨_, rfl, _, rfl, a, _, 1, _, rfl, rfl, SqL.of f0.hA, rfl, cl, _, i, _, rfl, rfl, SqL.of f0.hC, at_of hi.symm hc, ?_⟩
          refine ⟨_, rfl, a, _, 1, _, rfl, rfl, SqL.of f0.hA, rfl, _, _, rfl, rfl, _, rfl, a, _, _, 1, rfl, rfl, f0.hA, rfl, ?_⟩
          refine ⟨_, rfl, _, _, rfl, rfl, (by show (0 : Int) ≤ 18 ∧ (18 : Int) ≤ 1000000 ∧ (10 : Int).natAbs < 2 ^ 64; decide), _, _, rfl, rfl, _, rfl, ?_⟩
          refine ite2 (fun _ => ?_) (fun _ => ?_)
          · refine ⟨_, rfl, _, rfl, a, _, _, 2, rfl, rfl, upd_same, rfl, ?_⟩
            exact ⟨_, _, _, rfl, ⟨cs, _, _, _, f1.put (i' := i + 1) (p' := cv) (s' := s) (by have := f0.i0; omega) c0 f0.s0 f0.s1⟩, (But.upd a H _).trans (But.upd a _ _)⟩
          · refine ⟨_, rfl, a, _, 3, _, rfl, rfl, SqL.of upd_same, rfl, _, _, rfl, rfl, .inr (by decide), _, rfl, _, _, rfl, rfl, .inr (by decide), _, _, rfl, rfl, _, _, rfl, rfl, .inl ⟨_, rfl, _, _, rfl, rfl, (by show (0 : Int) < 2147483647; decide), _, rfl, a, _, _, 3, rfl, rfl, upd_same, rfl, ?_⟩⟩
            refine ⟨_, _, _, rfl, ⟨cs, _, _, _, f1.put (i' := i + 1) (p' := p) (by have := f0.i0; omega) f0.p0 (Int.emod_nonneg _ (by decide)) (Int.lt_trans (Int.emod_lt_of_pos _ (by decide)) (by decide))⟩, (But.upd a H _).trans (But.upd a _ _)⟩
        · exact ⟨_, _, _, rfl, ⟨cs, i, p, s, f0⟩, But.refl a H⟩
      · exact ⟨_, _, _, rfl, ⟨cs, i, p, s, f0⟩, But.refl a H⟩
    · rintro σ' H1 ⟨x2, x3, x4, rfl, ⟨cs, i, p, s, f1⟩, b1⟩
      refine ⟨fun σ' H' => ∃ x2 x3 x4, σ' = [some (.ref a), some (.int m), x2, x3, x4] ∧ FeedAt H' a cl ∧ But a H H', ?_, ?_⟩
      · refine ⟨_, rfl, a, _, 2, _, rfl, rfl, SqL.of f1.hA, rfl, _, _, rfl, rfl, _, rfl, ?_⟩
        refine ite2 (fun z => ?_) (fun _ => ?_)
        · refine ⟨_, rfl, a, _, 2, _, rfl, rfl, SqL.of f1.hA, rfl, .inl ⟨_, rfl, _, rfl, _, _, rfl, rfl, hm, ?_⟩⟩
          refine ⟨_, rfl, a, _, 2, _, rfl, rfl, SqL.of f1.hA, rfl, _, rfl, _, _, rfl, rfl, ⟨hm, hm2⟩, _, rfl, a, _, _, 2, rfl, rfl, f1.hA, rfl, ?_⟩
          refine ⟨_, rfl, ?_⟩
          exact k _ _ (Int.emod_nonneg _ (by omega)) (Int.emod_lt_of_pos _ hm) ⟨cs, _, _, _, f1.put (i' := i) (s' := s) f1.i0 (Int.ediv_nonneg f1.p0 (by omega)) f1.s0 f1.s1⟩ (b1.trans (But.upd a _ _))
        · exact ⟨_, _, _, rfl, ⟨cs, i, p, s, f1⟩, b1⟩
      · rintro σ' H2 ⟨x2, x3, x4, rfl, ⟨cs, i, p, s, f2⟩, b2⟩
        refine ⟨_, rfl, a, _, 3, _, rfl, rfl, SqL.of f2.hA, rfl, _, _, rfl, rfl, .inr (by decide), _, _, rfl, rfl, .inl ⟨_, rfl, _, _, rfl, rfl, (by show (0 : Int) < 2147483629; decide), _, rfl, a, _, _, 3, rfl, rfl, f2.hA, rfl, ?_⟩⟩
        have e0 := Int.emod_nonneg (s * 16807 + 12345) (show (2147483629 : Int) ≠ 0 by decide)
        have e1 := Int.emod_lt_of_pos (s * 16807 + 12345) (show (0 : Int) < 2147483629 by decide)
        have f3 := f2.put (i' := i) (p' := p) (s' := (s * 16807 + 12345) % 2147483629) f2.i0 f2.p0 e0 (by omega)
        refine ⟨_, rfl, a, _, 3, _, rfl, rfl, SqL.of upd_same, rfl, _, rfl, a, _, 3, _, rfl, rfl, SqL.of upd_same, rfl, _, _, rfl, rfl, .inl ⟨by omega, by omega⟩, _, _, rfl, rfl, ⟨by decide, by decide⟩,
          _, rfl, a, _, 3, _, rfl, rfl, SqL.of upd_same, rfl, _, _, rfl, rfl, ⟨by decide, by decide⟩, _, _, rfl, rfl, .inl ⟨_, rfl, _, rfl, _, _, rfl, rfl, hm, ?_⟩⟩
        exact k _ _ (Int.emod_nonneg _ (by omega)) (Int.emod_lt_of_pos _ hm) ⟨cs, _, _, _, f3⟩ (b2.trans (But.upd a _ _))
end
end RX

set_option Elab.async false
set_option maxRecDepth 100000
namespace RX
open PySem L2
abbrev sPair : Stmt := topS 32
/-- a pair of ints stands at p -/
def PairAt (H : Hp) (p : Addr) (n d : Int) : Prop := H p = some (.tup [.int n, .int d])
theorem PairAt.same {H H' : Hp} {p : Addr} {n d : Int} (h : PairAt H p n d) (s : Same H H') : PairAt H' p n d := s _ _ h
theorem PairAt.t {K : PySem.W.Frag} {H : Hp} {p : Addr} {n d : Int} (h : PairAt H p n d) : SqT K H p [.int n, .int d] := SqT.of h
def spPair : Sp := fun vs H Q _ => ∃ (t b : Int), vs = [.int t, .int b] ∧ b ≠ 0 ∧ Md b ∧ ∀ (r : Addr) (H' : Hp), Same H H' → H r = none → PairAt H' r (RT.top t b) (RT.bot t b) → Q (.ref r) H'
theorem But.free {a cl : Addr} {H H1 : Hp} {r : Addr} (x : But a H H1) (h : H1 r = none) (f : FeedAt H1 a cl) : H r = none := by
  cases q : H r with
  | none => rfl
  | some o =>
    by_cases e : r = a
    · subst e
      obtain ⟨cs, i, p, s, f⟩ := f
      rw [f.hA] at h
      cases h
    · rw [x r o q e] at h
      cases h
/-- a def of the law that is called by its name -/
structure CalN (P : Program) (w : World) (K : PySem.W.Frag) (mg : Str → Option Value) (base : Heap) (x : Str) (k : Nat) (ps : List Str) (sp : Sp) (f : Addr) (fd : FuncData) : Prop where
  G : FnOk P w K mg base CX0 k f fd ps sp
  m : mg x = some (.ref f)
  kp : PySem.W.keepIn K (.ref f) = true
  b : Binds K fd ps []
/-- of at most 500 bits -/
def Ti (x : Int) : Prop := x.natAbs < 2 ^ 500
theorem pw {a b : Nat} (h : a ≤ b) {x : Nat} (hx : x < 2 ^ a) : x < 2 ^ b := Nat.lt_of_lt_of_le hx (Nat.pow_le_pow_right (by decide) h)
theorem mulB {x y : Int} {a b : Nat} (ha : x.natAbs < 2 ^ a) (hb : y.natAbs < 2 ^ b) : (x * y).natAbs < 2 ^ (a + b) := wide_lt ha hb
theorem addB {x y : Int} {a : Nat} (ha : x.natAbs < 2 ^ a) (hb : y.natAbs < 2 ^ a) : (x + y).natAbs < 2 ^ (a + 1) := by
  have := Int.natAbs_add_le x y
  rw [Nat.pow_succ]
  omega
theorem topB {t b : Int} {a : Nat} (h : b ≠ 0) (ha : t.natAbs < 2 ^ a) : (RT.top t b).natAbs < 2 ^ a := Nat.lt_of_le_of_lt (RT.top_le h) ha
theorem botB {t b : Int} {a : Nat} (h : b ≠ 0) (ha : b.natAbs < 2 ^ a) : (RT.bot t b).natAbs < 2 ^ a := Nat.lt_of_le_of_lt (RT.bot_le h) ha
theorem botN {t b : Int} (h : b ≠ 0) : RT.bot t b ≠ 0 := by have := RT.bot_pos (t := t) h; omega
section
variable {P : Program} {w : World} {K : PySem.W.Frag} {mg : Str → Option Value} {base : Heap}
theorem scG : FnScope ["feed", "parts", "found", "k"] ["feed", "parts"] (defScope sGreat) := ⟨rfl, rfl, rfl, by decide +kernel, rfl, by decide +kernel, by decide +kernel⟩
theorem ok_great {f fD : Addr} {fd fdD : FuncData} (F : Fun K "_law_great" "_law_great" sGreat f fd) (T : TxtL mg) (GD : FnOk P w K mg base CX0 1 fD fdD ["feed", "limit"] spDraw) (mD : mg "_law_draw" = some (.ref fD)) (kD : PySem.W.keepIn K (.ref fD) = true) (bD : Binds K fdD ["feed", "limit"] []) :
    FnOk P w K mg base CX0 2 f fd ["feed", "parts"] spGreat := by
  refine F.ok scG (fun vs H Q E h => ?_) (fun cdv A outer s H vs Q E hr h => ?_)
  · obtain ⟨a, cl, m, rfl, _⟩ := h
    rfl
  · obtain ⟨a, cl, m, rfl, hF, h0, h1, k⟩ := h
    refine ⟨_, pss_cons (ps_set (i := 2) scG.nd rfl (.inl rfl) pe_int)
      (pss_cons (ps_for PassesOwn.never rfl (pi_range1 rfl T.range (pa_cons (pv 1) pa_nil)) (pg_name (i := 3) scG.nd rfl (.inl rfl))
        (pss_one (ps_set (i := 2) scG.nd rfl (.inl rfl) (pe_op op_add (pe_op op_mul (pv 2) pe_int) (pe_call GD hr rfl mD kD bD .nil pass0 (pa_cons (pv 0) (pa_cons pe_int pa_nil)))))))
      (pss_one (ps_ret (pv 2)))), ?_⟩
    refine ⟨_, rfl, m, rfl, by omega, by omega, for_range (n := m.toNat) (fun i σ H' => ∃ (x : Int) (y : Option V), σ = [some (.ref a), some (.int m), some (.int x), y] ∧ 0 ≤ x ∧ x < 100000 ^ i ∧ FeedAt H' a cl ∧ But a H H')
      ⟨0, none, rfl, by omega, by decide, hF, But.refl a H⟩ ?_ ?_⟩
    · rintro i σ H' hi ⟨x, y, rfl, x0, x1, f1, b1⟩
      refine ⟨_, rfl, _, _, rfl, rfl, .inr (by decide), _, rfl, a, cl, _, rfl, f1, by decide, by decide, fun r H2 r0 r1 f2 b2 => ?_⟩
      refine ⟨_, _, rfl, rfl, _, _, rfl, by omega, ?_, f2, b1.trans b2⟩
      rw [Int.pow_succ]
      omega
    · rintro σ H' ⟨x, y, rfl, x0, x1, f1, b1⟩
      exact ⟨_, rfl, k x H' x0 x1 f1 b1⟩
theorem scP : FnScope ["above", "below", "one", "two"] ["above", "below"] (defScope sPair) := ⟨rfl, rfl, rfl, by decide +kernel, rfl, by decide +kernel, by decide +kernel⟩
theorem ok_pair {f : Addr} {fd : FuncData} (F : Fun K "_law_pair" "_law_pair" sPair f fd) (T : TxtL mg) : FnOk P w K mg base CX0 1 f fd ["above", "below"] spPair := by
  refine F.ok scP (fun vs H Q E h => ?_) (fun cdv A outer s H vs Q E hr h => ?_)
  · obtain ⟨t, b, rfl, _⟩ := h
    rfl
  · obtain ⟨t, b, rfl, hb, hz, k⟩ := h
    refine ⟨_, pss_cons (ps_set (i := 2) scP.nd rfl (.inl rfl) (pe_callB call_abs (by rfl) T.abs (by decide +kernel) (pa_cons (pv 0) pa_nil)))
      (pss_cons (ps_set (i := 3) scP.nd rfl (.inl rfl) (pe_callB call_abs (by rfl) T.abs (by decide +kernel) (pa_cons (pv 1) pa_nil)))
      (pss_cons (ps_while PassesOwn.never (pt_cmpR op_gt (pv 3) pe_int (nomark _))
        (pss_one (ps_par (i := 2) (j := 3) (by rfl) scP.nd rfl rfl (by decide) rfl rfl (pa_cons (pv 3) (pa_cons (pe_op op_mod (pe_callTy call_int1 (by rfl) T.int (by decide +kernel) (pa_cons (pv 2) pa_nil)) (pv 3)) pa_nil)) (by rfl))))
      (C8.pss_cut (ps_if (pt_cmpR op_lt (pv 1) pe_int (nomark _)) (pss_one (ps_set (i := 2) scP.nd rfl (.inl rfl) (pe_op op_sub pe_int (pv 2)))) pss_nil)
      (pss_one (ps_ret (pe_tup (pa_cons (pe_op op_fdivZ (pv 0) (pv 2)) (pa_cons (pe_op op_fdivZ (pv 1) (pv 2)) pa_nil)))))))), ?_⟩
    refine ⟨_, rfl, t, rfl, _, rfl, b, rfl, ?_⟩
    have ab : ∀ x : Int, 0 ≤ (if x < 0 then -x else x) ∧ (if x < 0 then -x else x).natAbs = x.natAbs := fun x => by split <;> omega
    refine while_by (fun σ H' => ∃ x y : Int, σ = [some (.int t), some (.int b), some (.int x), some (.int y)] ∧ H' = H ∧ 0 ≤ x ∧ 0 ≤ y ∧ Nat.gcd x.natAbs y.natAbs = Nat.gcd t.natAbs b.natAbs)
      (fun σ _ => match σ with | [_, _, _, some (.int y)] => y.toNat | _ => 0)
      ⟨_, _, rfl, rfl, (ab t).1, (ab b).1, by rw [(ab t).2, (ab b).2]⟩ ?_ (fun σ H' R R' h q => by
        obtain ⟨v, hv, i, j, e1, e2, kk, e3, q⟩ := q
        exact ⟨v, hv, i, j, e1, e2, kk, e3, h _ _ q⟩)
    rintro σ H' ⟨x, y, rfl, rfl, x0, y0, g⟩
    refine ⟨_, rfl, _, _, rfl, rfl, _, rfl, ?_⟩
    refine ite2 (fun z => ?_) (fun z => ?_)
    · have z := of_decide_eq_true z
      refine ⟨_, rfl, _, rfl, .inl ⟨_, rfl, _, rfl, _, _, rfl, rfl, z, ?_⟩⟩
      have m0 := Int.emod_nonneg x (show y ≠ 0 by omega)
      have m1 := Int.emod_lt_of_pos x z
      refine ⟨_, _, rfl, ⟨_, _, rfl, rfl, y0, m0, ?_⟩, ?_⟩
      · rw [Nat.gcd_comm, ← g]
        have : (x % y).natAbs = x.natAbs % y.natAbs := by
          rw [Int.natAbs_emod_of_nonneg x0]
        rw [this, Nat.gcd_comm x.natAbs, Nat.gcd_rec y.natAbs x.natAbs]
      · show (x % y).toNat < y.toNat
        omega
    · have z : ¬ y > 0 := fun h => z (decide_eq_true h)
      have y00 : y = 0 := by omega
      subst y00
      have hg : x = RT.gg t b := by
        unfold RT.gg
        rw [← g]
        show x = ((Nat.gcd x.natAbs 0 : Nat) : Int)
        rw [Nat.gcd_zero_right]
        omega
      refine ⟨fun σ' H2 => σ' = [some (.int t), some (.int b), some (.int (RT.byv t b)), some (.int 0)] ∧ H2 = H', ?_, ?_⟩
      · refine ⟨_, rfl, _, _, rfl, rfl, _, rfl, ?_⟩
        refine ite2 (fun z => ?_) (fun z => ?_)
        · have z := of_decide_eq_true z
          refine ⟨_, rfl, _, _, rfl, rfl, ?_, rfl⟩
          have e : (0 : Int) - x = RT.byv t b := by
            unfold RT.byv
            rw [if_neg (by omega), hg]
            omega
          show [some (V.int t), some (V.int b), some (V.int (0 - x)), some (V.int 0)] = _
          rw [e]
        · have z : ¬ b < 0 := fun h => z (decide_eq_true h)
          refine ⟨?_, rfl⟩
          have e : x = RT.byv t b := by
            unfold RT.byv
            rw [if_pos (by omega), hg]
          rw [e]
      · rintro σ' H' ⟨rfl, rfl⟩
        have hdiv : ∀ x : Int, CDivZ x (RT.byv t b) := fun x => divZ (RT.byv_ne hb) (Nat.lt_of_le_of_lt (RT.byv_le hb) hz) (by decide) (by decide)
        refine ⟨_, rfl, _, rfl, _, _, rfl, rfl, hdiv t, _, rfl, _, rfl, _, _, rfl, rfl, hdiv b, (by show 2 ≤ sizeLine; decide), fun r nr => ?_⟩
        exact k r _ (Same.upd nr) nr upd_same
end
end RX

set_option Elab.async false
set_option maxRecDepth 100000
namespace RX
open PySem L2
abbrev sIsInt : Stmt := topS 33
abbrev sSame : Stmt := topS 34
def spIsInt : Sp := fun vs H Q _ => ∃ n : Int, vs = [.int n] ∧ Q (.bl true) H
/-- a Ratio and a pair that are the same -/
def spSame (C : Addr) : Sp := fun vs H Q _ => ∃ (p q : Addr) (n d : Int), vs = [.ref p, .ref q] ∧ RatAt C H p n d ∧ PairAt H q n d ∧ Q (.bl true) H
section
variable {P : Program} {w : World} {K : PySem.W.Frag} {mg : Str → Option Value} {base : Heap}
theorem scIs : FnScope ["actual"] ["actual"] (defScope sIsInt) := ⟨rfl, rfl, rfl, by decide +kernel, rfl, by decide +kernel, by decide +kernel⟩
theorem ok_isInt {f : Addr} {fd : FuncData} (F : Fun K "_law_is_integer" "_law_is_integer" sIsInt f fd) (T : TxtL mg) : FnOk P w K mg base CX0 1 f fd ["actual"] spIsInt := by
  refine F.ok scIs (fun vs H Q E h => ?_) (fun cdv A outer s H vs Q E hr h => ?_)
  · obtain ⟨n, rfl, _⟩ := h
    rfl
  · obtain ⟨n, rfl, k⟩ := h
    refine ⟨_, pss_one (ps_ret (pe_and (pe_callB call_isi (by rfl) T.isi (by decide +kernel) (pa_cons (pv 0) (pa_cons (pe_bltn (v := .ty "int") (by rfl) T.int (by decide +kernel) rfl) pa_nil)))
      (pe_one (pe_not (pe_callB call_isi (by rfl) T.isi (by decide +kernel) (pa_cons (pv 0) (pa_cons (pe_bltn (v := .ty "bool") (by rfl) T.bool (by decide +kernel) rfl) pa_nil))))))), ?_⟩
    refine ⟨_, rfl, _, _, _, _, true, rfl, .ty _, .base (.int n), kit_ty (by decide +kernel), true, rfl, ?_⟩
    refine iteT ?_
    exact ⟨_, rfl, _, _, _, _, false, rfl, .ty _, .base (.int n), kit_ty (by decide +kernel), false, rfl, k⟩
theorem scSa : FnScope ["actual", "due"] ["actual", "due"] (defScope sSame) := ⟨rfl, rfl, rfl, by decide +kernel, rfl, by decide +kernel, by decide +kernel⟩
theorem ok_same {f fI C : Addr} {fd fdI : FuncData} (F : Fun K "_law_same" "_law_same" sSame f fd) (T : TxtL mg) (R : TxtR K mg C) (c : C8.InsC K C) (GI : FnOk P w K mg base CX0 1 fI fdI ["actual"] spIsInt) (mI : mg "_law_is_integer" = some (.ref fI)) (kI : PySem.W.keepIn K (.ref fI) = true) (bI : Binds K fdI ["actual"] []) :
    FnOk P w K mg base CX0 2 f fd ["actual", "due"] (spSame C) := by
  refine F.ok scSa (fun vs H Q E h => ?_) (fun cdv A outer s H vs Q E hr h => ?_)
  · obtain ⟨p, q, n, d, rfl, _⟩ := h
    rfl
  · obtain ⟨p, q, n, d, rfl, ⟨dx, hp⟩, hq, k⟩ := h
    refine ⟨_, pss_cons (ps_if (pt_not (pt_val (pe_callB (C8.call_isC c) (by rfl) T.isi (by decide +kernel) (pa_cons (pv 0) (pa_cons (pe_glob (v := .ref C) (by rfl) R.mgC rfl) pa_nil))))) (pss_one ps_never) pss_nil)
      (pss_cons (ps_if (PW.pt (pw_or (pt_not (pt_val (pe_call GI hr rfl mI kI bI .nil pass0 (pa_cons (pe_fld (pv 0) rfl) pa_nil)))) (pw_or1 (pt_not (pt_val (pe_call GI hr rfl mI kI bI .nil pass0 (pa_cons (pe_fld (pv 0) rfl) pa_nil)))))))
        (pss_one ps_never) pss_nil)
      (pss_one (ps_ret (pe_and (pe_cmpR op_eq (pe_fld (pv 0) rfl) (pe_ix ix_tup (pv 1) pe_int (fun _ _ => rfl)) (nomark _)) (pe_one (pe_cmpR op_eq (pe_fld (pv 0) rfl) (pe_ix ix_tup (pv 1) pe_int (fun _ _ => rfl)) (nomark _))))))), ?_⟩
    refine ⟨_, rfl, p, dx, _, rfl, hp, true, rfl, ?_⟩
    refine iteF ?_
    refine ⟨_, rfl, p, C, dx, _, _, rfl, hp, R.cl, R.nT, rf_top _ _, n, rfl, true, rfl, ?_⟩
    refine iteF ?_
    refine ⟨_, rfl, p, C, dx, _, _, rfl, hp, R.cl, R.nB, rf_bot _ _, d, rfl, true, rfl, ?_⟩
    refine iteF ?_
    refine ⟨_, rfl, p, C, dx, _, _, rfl, hp, R.cl, R.nT, rf_top _ _, _, rfl, q, _, 0, _, rfl, rfl, hq.t, rfl, rfl, true, (by rw [decide_eq_true rfl]), ?_⟩
    refine iteT ?_
    refine ⟨_, rfl, p, C, dx, _, _, rfl, hp, R.cl, R.nB, rf_bot _ _, _, rfl, q, _, 1, _, rfl, rfl, hq.t, rfl, rfl, ?_⟩
    show Q (V.bl (decide (V.int d = V.int d))) H
    rw [decide_eq_true rfl]
    exact k
end
end RX

set_option Elab.async false
set_option maxRecDepth 100000
namespace RX
open PySem L2
theorem map_range_ext {α : Type} {i : Nat} {f g : Nat → α} (h : ∀ j, j < i → f j = g j) : (List.range i).map f = (List.range i).map g :=
  List.map_congr_left fun j hj => h j (List.mem_range.mp hj)
/-- one more at the end -/
def ext {α : Type} (f : Nat → α) (i : Nat) (x : α) : Nat → α := fun j => if j = i then x else f j
theorem ext_same {α : Type} (f : Nat → α) (i : Nat) (x : α) : ext f i x i = x := if_pos rfl
theorem ext_lt {α : Type} (f : Nat → α) {i j : Nat} (x : α) (h : j < i) : ext f i x j = f j := if_neg (by omega)
theorem map_ext {α : Type} (f : Nat → α) (i : Nat) (x : α) : (List.range (i + 1)).map (ext f i x) = (List.range i).map f ++ [x] := by
  rw [List.range_succ, List.map_append]
  rw [map_range_ext (f := ext f i x) (g := f) fun j h => ext_lt f x h]
  show _ ++ [ext f i x i] = _
  rw [ext_same]
theorem FeedAt.lst {H : Hp} {a cl : Addr} (h : FeedAt H a cl) : ∃ xs, H a = some (.lst xs) := let ⟨_, _, _, _, f⟩ := h; ⟨_, f.hA⟩
theorem FeedAt.lst2 {H : Hp} {a cl : Addr} (h : FeedAt H a cl) : ∃ xs, H cl = some (.lst xs) := let ⟨_, _, _, _, f⟩ := h; ⟨_, f.hC⟩
theorem FeedAt.other {H : Hp} {a cl r : Addr} {o : HO} (h : FeedAt H a cl) (h1 : r ≠ a) (h2 : r ≠ cl) : FeedAt (upd H r o) a cl :=
  let ⟨cs, i, p, s, f⟩ := h
  ⟨cs, i, p, s, by rw [upd_ne h1.symm]; exact f.hA, by rw [upd_ne h2.symm]; exact f.hC, f.ne, f.i0, f.p0, f.s0, f.s1, f.len, f.nn⟩
theorem PairAt.ne {H : Hp} {q R : Addr} {n d : Int} {xs : List V} (h : PairAt H q n d) (h2 : H R = some (.lst xs)) : q ≠ R := ne_of h h2 (by intro z; cases z)
theorem PairAt.other {H : Hp} {q R : Addr} {n d : Int} {o : HO} (h : PairAt H q n d) (ne : q ≠ R) : PairAt (upd H R o) q n d := by
  show upd H R o q = _
  rw [upd_ne ne]
  exact h
theorem PairAt.but {H H' : Hp} {a q : Addr} {n d : Int} (h : PairAt H q n d) (x : But a H H') (ne : q ≠ a) : PairAt H' q n d := x _ _ h ne
theorem RatAt.other {C : Addr} {H : Hp} {q R : Addr} {n d : Int} {o : HO} (h : RatAt C H q n d) (ne : q ≠ R) : RatAt C (upd H R o) q n d := by
  obtain ⟨dx, h⟩ := h
  exact ⟨dx, by rw [upd_ne ne]; exact h⟩
theorem ex1 (x : Int) : V.bl (decide (V.int x = V.int x)) = V.bl true := by rw [decide_eq_true rfl]
end RX

set_option Elab.async false
set_option maxRecDepth 100000
namespace RX
open PySem L2
/-! ### rows, tables, what comprehensions build -/
/-- k of them, one after another -/
def refs (k : Nat) (a : Nat → Addr) : List V := (List.range k).map fun i => V.ref (a i)
theorem refs_len (k : Nat) (a : Nat → Addr) : (refs k a).length = k := by unfold refs; rw [List.length_map, List.length_range]
theorem refs_get {k : Nat} {a : Nat → Addr} {i : Nat} (h : i < k) : (refs k a)[i]? = some (.ref (a i)) := by
  unfold refs
  rw [List.getElem?_map, List.getElem?_range h]
  rfl
theorem refs_lt {k : Nat} {a : Nat → Addr} {i : Nat} {x : V} (h : (refs k a)[i]? = some x) : i < k ∧ x = .ref (a i) := by
  have hi : i < k := by
    have := (List.getElem?_eq_some_iff.mp h).1
    rw [refs_len] at this
    exact this
  rw [refs_get hi] at h
  exact ⟨hi, (Option.some.inj h).symm⟩
/-- a tuple of Ratios -/
structure RowAt (C : Addr) (H : Hp) (p : Addr) (k : Nat) (a : Nat → Addr) (n d : Nat → Int) : Prop where
  hp : H p = some (.tup (refs k a))
  r : ∀ i, i < k → RatAt C H (a i) (n i) (d i)
theorem RowAt.same {C : Addr} {H H' : Hp} {p : Addr} {k : Nat} {a : Nat → Addr} {n d : Nat → Int} (h : RowAt C H p k a n d) (s : Same H H') : RowAt C H' p k a n d := ⟨s _ _ h.hp, fun i hi => (h.r i hi).same s⟩
theorem refs_ext (S : Nat → Addr) (i : Nat) (x : Addr) : refs (i + 1) (ext S i x) = refs i S ++ [.ref x] := by
  unfold refs
  rw [List.range_succ, List.map_append]
  rw [map_range_ext (f := fun j => V.ref (ext S i x j)) (g := fun j => V.ref (S j)) fun j h => by rw [ext_lt S x h]]
  show _ ++ [V.ref (ext S i x i)] = _
  rw [ext_same]
/-- a property of an address that stays -/
structure Stays (Pr : Hp → Nat → Addr → Prop) : Prop where
  s : ∀ {H H' : Hp} {j : Nat} {x : Addr}, Same H H' → Pr H j x → Pr H' j x
  u : ∀ {H : Hp} {j : Nat} {x D : Addr} {xs ys : List V}, H D = some (.lst xs) → Pr H j x → Pr (upd H D (.lst ys)) j x
structure Built (Pr : Hp → Nat → Addr → Prop) (H : Hp) (D : Addr) (i : Nat) (S : Nat → Addr) (H2 : Hp) : Prop where
  hD : H2 D = some (.lst (refs i S))
  pr : ∀ j, j < i → Pr H2 j (S j)
  s : Same H H2
theorem built0 {Pr : Hp → Nat → Addr → Prop} {H : Hp} {D : Addr} (nD : H D = none) : Built Pr H D 0 (fun _ => D) (upd H D (.lst [])) :=
  ⟨upd_same, fun _ h => absurd h (by omega), Same.upd nD⟩
theorem Built.step {Pr : Hp → Nat → Addr → Prop} {H H2 H3 : Hp} {D x : Addr} {i : Nat} {S : Nat → Addr} (B : Built Pr H D i S H2) (st : Stays Pr) (nD : H D = none) (s : Same H2 H3) (p : Pr H3 i x) :
    Built Pr H D (i + 1) (ext S i x) (upd H3 D (.lst (refs i S ++ [.ref x]))) := by
  have h3 := s _ _ B.hD
  refine ⟨by rw [upd_same, refs_ext], fun j hj => ?_, fun b o e => by rw [upd_ne (ne_of_none e nD)]; exact s _ _ (B.s _ _ e)⟩
  refine st.u h3 ?_
  by_cases e : j = i
  · subst e; rw [ext_same]; exact p
  · rw [ext_lt S x (by omega)]
    exact st.s s (B.pr j (by omega))
theorem RatAt.ne {C : Addr} {H : Hp} {p D : Addr} {n d : Int} {xs : List V} (h : RatAt C H p n d) (h2 : H D = some (.lst xs)) : p ≠ D := by
  obtain ⟨dx, h⟩ := h
  exact ne_of h h2 (by intro z; cases z)
theorem RowAt.updL {C : Addr} {H : Hp} {p D : Addr} {k : Nat} {a : Nat → Addr} {n d : Nat → Int} {xs ys : List V} (h : RowAt C H p k a n d) (h2 : H D = some (.lst xs)) : RowAt C (upd H D (.lst ys)) p k a n d :=
  ⟨by rw [upd_ne (ne_of h.hp h2 (by intro z; cases z))]; exact h.hp, fun i hi => (h.r i hi).other ((h.r i hi).ne h2)⟩
theorem stays_rat {C : Addr} {n d : Nat → Int} : Stays (fun H j x => RatAt C H x (n j) (d j)) := ⟨fun s h => h.same s, fun h2 h => h.other (h.ne h2)⟩
theorem stays_row {C : Addr} {k : Nat} {n d : Nat → Nat → Int} : Stays (fun H i x => ∃ a, RowAt C H x k a (n i) (d i)) := ⟨fun s ⟨a, h⟩ => ⟨a, h.same s⟩, fun h2 ⟨a, h⟩ => ⟨a, h.updL h2⟩⟩
/-- a table of Ratios -/
structure TabAt (C : Addr) (H : Hp) (p : Addr) (h w : Nat) (R : Nat → Addr) (A : Nat → Nat → Addr) (N D : Nat → Nat → Int) : Prop where
  hp : H p = some (.tup (refs h R))
  r : ∀ i, i < h → RowAt C H (R i) w (A i) (N i) (D i)
theorem TabAt.same {C : Addr} {H H' : Hp} {p : Addr} {h w : Nat} {R : Nat → Addr} {A : Nat → Nat → Addr} {N D : Nat → Nat → Int} (x : TabAt C H p h w R A N D) (s : Same H H') : TabAt C H' p h w R A N D := ⟨s _ _ x.hp, fun i hi => (x.r i hi).same s⟩
/-- a list of pairs -/
structure LineAt (H : Hp) (q : Addr) (k : Nat) (a : Nat → Addr) (n d : Nat → Int) : Prop where
  hq : H q = some (.lst (refs k a))
  p : ∀ i, i < k → PairAt H (a i) (n i) (d i)
theorem LineAt.same {H H' : Hp} {q : Addr} {k : Nat} {a : Nat → Addr} {n d : Nat → Int} (h : LineAt H q k a n d) (s : Same H H') : LineAt H' q k a n d := ⟨s _ _ h.hq, fun i hi => (h.p i hi).same s⟩
/-- a list of lists of pairs -/
structure LinesAt (H : Hp) (q : Addr) (h w : Nat) (R : Nat → Addr) (A : Nat → Nat → Addr) (N D : Nat → Nat → Int) : Prop where
  hq : H q = some (.lst (refs h R))
  r : ∀ i, i < h → LineAt H (R i) w (A i) (N i) (D i)
theorem LinesAt.same {H H' : Hp} {q : Addr} {h w : Nat} {R : Nat → Addr} {A : Nat → Nat → Addr} {N D : Nat → Nat → Int} (x : LinesAt H q h w R A N D) (s : Same H H') : LinesAt H' q h w R A N D := ⟨s _ _ x.hq, fun i hi => (x.r i hi).same s⟩
theorem Built.tab {C : Addr} {H H4 : Hp} {D : Addr} {h k : Nat} {S : Nat → Addr} {n d : Nat → Nat → Int} (B : Built (fun H i x => ∃ a, RowAt C H x k a (n i) (d i)) H D h S H4) {r : Addr} (nr : H4 r = none) :
    ∃ A, TabAt C (upd H4 r (.tup (refs h S))) r h k S A n d := by
  have s5 : Same H4 (upd H4 r (.tup (refs h S))) := Same.upd nr
  have ch : ∀ i, ∃ a, i < h → RowAt C H4 (S i) k a (n i) (d i) := fun i => by
    by_cases hi : i < h
    · obtain ⟨a, ha⟩ := B.pr i hi
      exact ⟨a, fun _ => ha⟩
    · exact ⟨fun _ => 0, fun h => absurd h hi⟩
  obtain ⟨B2, hB2⟩ := Classical.axiomOfChoice ch
  exact ⟨B2, upd_same, fun i hi => (hB2 i hi).same s5⟩
theorem LineAt.ne {H : Hp} {q F : Addr} {k : Nat} {a : Nat → Addr} {n d : Nat → Int} {xs : List V} (h : LineAt H q k a n d) (hF : H F = some (.lst xs)) : ∀ i, i < k → a i ≠ F := fun i hi => (h.p i hi).ne hF
theorem LineAt.other {H : Hp} {q F : Addr} {k : Nat} {a : Nat → Addr} {n d : Nat → Int} {xs : List V} {o : HO} (h : LineAt H q k a n d) (hF : H F = some (.lst xs)) (ne : q ≠ F) : LineAt (upd H F o) q k a n d :=
  ⟨by rw [upd_ne ne]; exact h.hq, fun i hi => (h.p i hi).other (h.ne hF i hi)⟩
theorem LineAt.but {H H' : Hp} {q F : Addr} {k : Nat} {a : Nat → Addr} {n d : Nat → Int} {xs : List V} (h : LineAt H q k a n d) (b : But F H H') (hF : H F = some (.lst xs)) (ne : q ≠ F) : LineAt H' q k a n d :=
  ⟨b _ _ h.hq ne, fun i hi => (h.p i hi).but b (h.ne hF i hi)⟩
theorem LinesAt.but {H H' : Hp} {q F : Addr} {h w : Nat} {R : Nat → Addr} {A : Nat → Nat → Addr} {N D : Nat → Nat → Int} {xs : List V} (x : LinesAt H q h w R A N D) (b : But F H H') (hF : H F = some (.lst xs)) (ne : q ≠ F) (nr : ∀ i, i < h → R i ≠ F) : LinesAt H' q h w R A N D :=
  ⟨b _ _ x.hq ne, fun i hi => (x.r i hi).but b hF (nr i hi)⟩
theorem refs_last (k : Nat) (a : Nat → Addr) : atI (refs (k + 1) a) (-1) = some (.ref (a k)) := by
  have : refs (k + 1) a = refs k a ++ [.ref (a k)] := by
    unfold refs
    rw [List.range_succ, List.map_append]
    rfl
  rw [this]
  exact atI_last _ _
def rTupO (K : PySem.W.Frag) : List V → Hp → VK → Prop := fun xs H Q => ∃ p ys, xs = [.ref p] ∧ ((SqL K H p ys ∧ ∀ l : Addr, H l = none → Q (.ref l) (upd H l (.tup ys))) ∨ SqT K H p ys ∧ Q (.ref p) H)
theorem call_tupK {X : Cx} : CallR X (.type "tuple") (rTupO X.K) := call_tuple_of
structure TxtP (mg : Str → Option Value) : Prop where
  zip : mg "zip" = none
  lcm : mg "lcm" = some (.builtin "math.lcm")
  tup : mg "tuple" = none
  list : mg "list" = none
  range : mg "range" = none
end RX

set_option Elab.async false
set_option maxRecDepth 100000
/-! // by a divisor of any size: the room that it wants, from the head on -/
namespace PL
open PySem PySem.Spec PyProof.Rows L2
/-- what // of great numbers asks of program and base -/
structure Big (P : Program) (base : Heap) : Prop where
  ns : base.NoSeer
  tr : P.given.tree = none
/-- the frame on top is a plain one -/
def Plain (X : Cx) : Prop := ∃ e l, X.stack = e :: l ∧ e.scope.isGenerator = false ∧ e.scope.isCoroutine = false ∧ e.builtins = builtinsNs ∧ e.globals = mainGlobals
theorem room {X : Cx} {pins : List (Addr × Obj)} {σ : L2.St} {H : Hp} {s : Shared} (B : Big X.prog X.base) (hr : Room 32 X.A) (hp : Plain X) (I : Inv X pins σ H s) : PylongRoom (model X.prog X.w) X.A s := by
  obtain ⟨e, l, h1, h2, h3, h4, h5⟩ := hp
  have fr := I.ok.frames
  rw [h1] at fr
  have sr : SeerAt (model X.prog X.w) X.A s.heap := SeerAt.of (B.ns.keeps I.bk) B.tr fr h2 h3 h4 h5
  refine PylongRoom.of I.nolimit ?_ sr
  have := hr.dp
  show X.A.depth + 100 < recursionLimit
  omega
theorem op_fdivP {X : Cx} (B : Big X.prog X.base) (hr : Room 32 X.A) (hp : Plain X) : OpR X (binaryOp .FloorDiv) (rI (fun _ j => j ≠ 0) fun i j => .int (i.fdiv j)) := by
  intro pins s σ H x y v u Q I rx ry ⟨i, j, ex, ey, hj, q⟩
  subst ex ey
  obtain ⟨t, rfl⟩ := rx
  obtain ⟨t', rfl⟩ := ry
  exact floordiv_int hj ⟨.int (i.fdiv j), H, I.tok _, ⟨_, rfl⟩, q⟩ (.inr (room B hr hp I))
/-- the law's call, with the room for great divisions told of the base -/
theorem big_call {P : Program} {w : World} {K : PySem.W.Frag} {mg mb : Str → Option Value} {CX : CXT} {k : Nat} {fa a : Addr} {fd : FuncData} {x : Str} {sp : Sp} {s : Shared} {us : List Value} {ns : List Int} (hS : s.heap.NoSeer)
    (hK : K.In s.heap) (h1 : s.heap.Ns mainGlobals mg) (h2 : s.heap.Ns builtinsNs mb) (h3 : ∀ x : Str, x ≠ "__name__" → mb x = bootBuiltins x) (h4 : s.heap.NoLimit) (h5 : s.gens = #[])
    (h6 : s.heap.get? a = some { cls := .type "list", data := .seq us.toArray }) (h7 : IntsAre us ns) (h8 : ns.length ≤ sizeLine) (h9 : Room k callerA)
    (F : ∀ base : Heap, K.In base → base.Ns mainGlobals mg → base.NoSeer → FnOk P w K mg base CX k fa fd [x] sp) (hb : ∀ (s : Shared) (u : Value), BindsTo s fd ⟨[u], []⟩ [(x, u)])
    (hsp : ∀ H : Hp, Only H → SqL K H a (ns.map V.int) → sp [.ref a] H (fun v _ => v = .bl true) fun _ _ _ => False)
    (hc : ∀ H e s', CX [] H s (fun _ _ _ => False) e s' → False) :
    codeAny (model P w) callerA (.call (.ref fa) ⟨[.ref a], []⟩) (fun r s' => r = .ok (.ret (.bool true)) ∧ OldK s.heap s'.heap ∧ s'.os = s.os ∧ AllBare s'.gens) s := by
  have rel := vals_ints h7
  -- what is tracked: the script, where the written part has it not
  let fz : HO := .frz { cls := .type "list", data := .seq us.toArray } (.lst (ns.map V.int))
  let H : Hp := fun b => if b = a then (if (K.lookup a).isSome then none else some fz) else none
  have Hn : ∀ {b : Addr}, b ≠ a → H b = none := fun n => if_neg n
  have Hs : ∀ {b : Addr} {u : HO}, H b = some u → b = a ∧ u = fz ∧ K.lookup a = none := fun {b u} z => by
    by_cases e : b = a
    · subst e
      have z : (if b = b then (if (K.lookup b).isSome then none else some fz) else none) = some u := z
      rw [if_pos rfl] at z
      cases q : K.lookup b with
      | none =>
        rw [q] at z
        exact ⟨rfl, (Option.some.inj z).symm, rfl⟩
      | some o => rw [q] at z; cases z
    · rw [Hn e] at z; cases z
  have only : Only H := fun b => by
    cases q : H b with
    | none => exact .inl rfl
    | some u => exact .inr ⟨_, _, congrArg some (Hs q).2.1⟩
  have old : ∀ {b : Addr} {o : Obj}, s.heap.get? b = some o → b ≠ a → (hidT s.heap H).get? b = some o := fun e n => hidT_get e (Hn n)
  have notA : ∀ {b : Addr} {o : Obj}, s.heap.get? b = some o → (∀ vs n, o.data ≠ .seq vs n) → b ≠ a := fun {b o} e d z => by
    rw [z, h6] at e
    exact d _ _ (congrArg Obj.data (Option.some.inj e)).symm
  have dictA : ∀ {b : Addr} {m : Str → Option Value}, s.heap.Ns b m → (hidT s.heap H).Ns b m := fun {b m} z => by
    obtain ⟨o, es, ep, e, d, r⟩ := z
    exact ⟨o, es, ep, old e (notA e fun vs n y => by rw [d] at y; cases y), d, r⟩
  have kin : K.In (hidT s.heap H) := fun b o e => by
    have e1 := hK b o e
    cases q : H b with
    | none => exact hidT_get e1 q
    | some u =>
      obtain ⟨rfl, _, y⟩ := Hs q
      rw [y] at e; cases e
  have lim : (hidT s.heap H).NoLimit := by
    obtain ⟨mc, l1, l2⟩ := h4
    exact ⟨mc, dictA l1, l2⟩
  have seer : (hidT s.heap H).NoSeer := by
    obtain ⟨⟨m1, a1, b1⟩, ⟨m2, a2, b2⟩, ⟨m3, a3, b3⟩, ⟨m4, bm, ob, a4, b4, c4, d4, e4⟩⟩ := hS
    refine ⟨⟨m1, dictA a1, b1⟩, ⟨m2, dictA a2, b2⟩, ⟨m3, dictA a3, b3⟩, ⟨m4, bm, ob, dictA a4, b4, old c4 (fun z => ?_), d4, e4⟩⟩
    rw [z, h6] at c4
    rw [← Option.some.inj c4] at d4
    have d5 : Value.type "list" = Value.type "module" := d4
    injection d5 with d5
    exact absurd d5 (by decide)
  have md : Mod K mg (hidT s.heap H) := ⟨kin, dictA h1, ⟨mb, dictA h2, h3⟩, lim⟩
  have hok : HOk P w H s.heap := fun b u z => by
    obtain ⟨rfl, rfl, _⟩ := Hs z
    exact ⟨h6, by rw [List.length_map]; exact h8, us, _, rel, h6⟩
  have sq : SqL K H a (ns.map V.int) := by
    cases q : K.lookup a with
    | none =>
      refine .inl (.inr ⟨{ cls := .type "list", data := .seq us.toArray }, ?_⟩)
      show (if a = a then (if (K.lookup a).isSome then none else some fz) else none) = _
      rw [if_pos rfl, q]
      rfl
    | some o =>
      have e1 := (hK a o q).symm.trans h6
      obtain rfl := Option.some.inj e1
      exact .inr ⟨_, us.toArray, _, q, rfl, rfl, rfl, by rw [List.size_toArray, h7.length]; exact h8, by simpa using rel⟩
  have env : Env0 P w K mg (hidT s.heap H) callerA [] s H := ⟨rfl, md, fun b o e => of_hidT e, Nat.le_of_eq (hidT_size _ _), trivial, (fun b z => nomatch z), hok, .of_eq h5⟩
  refine codeAny_mono ((F _ kin (dictA h1) seer).run callerA [] s H ⟨[.ref a], []⟩ [.ref a] [.ref a] _ _ h9 env (hb s (.ref a)) (.cons rfl .nil) (hsp H only sq)) fun r s' z => ?_
  match r, z with
  | .error e, z => exact (hc H e s' z).elim
  | .ok .next, z => exact z.elim
  | .ok .brk, z => exact z.elim
  | .ok .cont, z => exact z.elim
  | .ok (.ret u), z =>
    obtain ⟨v, H', os, bare, un, hok', ru, ev⟩ := z
    have ev : v = .bl true := ev
    subst ev
    have ru : u = Value.bool true := ru
    subst ru
    refine ⟨rfl, OldK.of_keep fun b o e => ?_, os, bare⟩
    cases q : H b with
    | none => exact un.keep b o e q (fun y => by cases y) (fun y => by cases y)
    | some u2 =>
      obtain ⟨rfl, rfl, _⟩ := Hs q
      have y1 := (hok b _ q).1
      have y2 := (hok' b _ (un.frzs b _ _ q)).1
      exact y2.trans (y1.symm.trans e)
theorem big_walk {l : PySem.W.OpenLaw} {n k : Nat} {q : Program} {loose : List Str} {XP : (Str → Option Value) → Heap → Prop} {YP : World → Heap → Prop} {d : DefRec} {K : Params → PySem.W.Frag} {CX : World → CXT} {sp : World → Sp} {x : Str}
    (hi : importsNone q = true) (h1 : l.most = some n) (h2 : n ≤ sizeLine) (h3 : d.params.defaults = []) (hr : Room k callerA)
    (hY : ∀ (w : World) (h : Heap), YP w h → (K w.params).In h)
    (F : ∀ (w : World) (mg : Str → Option Value) (fa : Addr) (h : Heap), (K w.params).In h → h.Ns mainGlobals mg → mg d.name = some (.ref fa) →
      ∃ fd : FuncData, (∀ (s : Shared) (u : Value), BindsTo s fd ⟨[u], []⟩ [(x, u)]) ∧
        ∀ base : Heap, (K w.params).In base → base.Ns mainGlobals mg → base.NoSeer → FnOk l.prog w (K w.params) mg base (CX w) k fa fd [x] (sp w))
    (hsp : ∀ (w : World) (H : Hp) (a : Addr) (ns : List Int), ns.length ≤ n → Only H → SqL (K w.params) H a (ns.map V.int) → sp w [.ref a] H (fun v _ => v = .bl true) fun _ _ _ => False)
    (hC : ∀ (w : World) (H : Hp) (s : Shared) (e : Value) (s' : Shared), CX w [] H s (fun _ _ _ => False) e s' → False) :
    PySem.W.WalkO q loose XP YP l.row.toRowW d [] (fun f vs => PySem.call f vs) := by
  refine Att.attach_call h1 h3 fun w s0 s mg mb fa o pm cd doc a us ns G Y _ _ _ gf ga gi gl gg => ?_
  obtain ⟨fd, hb, hF⟩ := F w mg fa _ (hY w _ Y) G.T.g gf
  exact big_call (G.T.seer hi) (hY w _ Y) G.T.g G.T.b G.T.builtins G.T.nolimit gg ga gi (Nat.le_trans gl h2) hr hF hb (fun H o z => hsp w H a ns gl o z) fun H e s' => hC w H s e s'
end PL

set_option Elab.async false
set_option maxRecDepth 100000
/-! Ratios as numbers, of any size that the model holds -/
namespace RQ
open PySem L2
def Bt (b : Nat) (x : Int) : Prop := x.natAbs < 2 ^ b
theorem Bt.up {a b : Nat} {x : Int} (h : Bt a x) (l : a ≤ b) : Bt b x := Nat.lt_of_lt_of_le h (Nat.pow_le_pow_right (by decide) l)
theorem Bt.mul {a b : Nat} {x y : Int} (h : Bt a x) (k : Bt b y) : Bt (a + b) (x * y) := by
  unfold Bt
  rw [Int.natAbs_mul, Nat.pow_add]
  exact Nat.mul_lt_mul'' h k
theorem Bt.add {a : Nat} {x y : Int} (h : Bt a x) (k : Bt a y) : Bt (a + 1) (x + y) := by
  unfold Bt at *
  have := Int.natAbs_add_le x y
  rw [Nat.pow_succ]
  omega
theorem Bt.sub {a : Nat} {x y : Int} (h : Bt a x) (k : Bt a y) : Bt (a + 1) (x - y) := by
  unfold Bt at *
  have := Int.natAbs_sub_le x y
  rw [Nat.pow_succ]
  omega
theorem Bt.neg {a : Nat} {x : Int} (h : Bt a x) : Bt a (-x) := by
  unfold Bt at *
  rw [Int.natAbs_neg]
  exact h
theorem Bt.le {a : Nat} {x y : Int} (h : Bt a x) (l : y.natAbs ≤ x.natAbs) : Bt a y := Nat.lt_of_le_of_lt l h
theorem Bt.log {a : Nat} {x : Int} (h : Bt a x) : x.natAbs.log2 ≤ a := by
  by_cases z : x.natAbs = 0
  · rw [z]; exact Nat.zero_le _
  · exact Nat.le_of_lt ((Nat.log2_lt z).mpr h)
/-- of at most sixty million bits -/
def Hg (x : Int) : Prop := ∃ b, b ≤ 60000000 ∧ Bt b x
theorem Bt.hg {a : Nat} {x : Int} (h : Bt a x) (l : a ≤ 60000000) : Hg x := ⟨a, l, h⟩
def CMulH (i j : Int) : Prop := Hg i ∧ Hg j
theorem CMulH.ok {i j : Int} (h : CMulH i j) : IntMulOk i j := by
  obtain ⟨⟨a, la, ha⟩, ⟨b, lb, hb⟩⟩ := h
  have ia : ∀ z : Int, Builtin.Int.intBits z ≤ z.natAbs.log2 + 1 := fun z => by unfold Builtin.Int.intBits; split <;> omega
  have e1 := ia i
  have e2 := ia j
  have e3 := ha.log
  have e4 := hb.log
  have line : bitsLine = 134217728 := by decide
  unfold IntMulOk
  intro y
  have y := (Bool.and_eq_true_iff.mp y).2
  unfold Builtin.Int.intTooBig at y
  have y := of_decide_eq_true y
  rw [line] at y
  omega
theorem op_mulH {X : Cx} : OpR X (binaryOp .Mult) (rI CMulH fun i j => .int (i * j)) := opI fun _ _ _ _ _ _ _ hc q => PyProof.Rows.mul_int q hc.ok
/-! ### numbers -/
theorem den0 (q : Rat) : ((q.den : Int) : Rat) ≠ 0 := fun z => q.den_nz (by
  have : ((q.den : Int) : Rat) = ((0 : Int) : Rat) := z
  have := Rat.intCast_inj.mp this
  omega)
theorem nd (q : Rat) : (q.num : Rat) = q * ((q.den : Int) : Rat) := by
  have e : (q.num : Rat) / ((q.den : Int) : Rat) = q := by rw [← Rat.divInt_eq_div, Rat.num_divInt_den]
  have d := den0 q
  grind
theorem i0 {b : Int} (h : b ≠ 0) : (b : Rat) ≠ 0 := fun z => h (Rat.intCast_inj.mp (by rw [z]; rfl))
/-- lowest terms of t / b -/
theorem low {t b : Int} (h : b ≠ 0) {q : Rat} (e : (t : Rat) = q * (b : Rat)) : RT.top t b = q.num ∧ RT.bot t b = (q.den : Int) := by
  have d0 : 0 < (q.den : Int) := by have := q.den_pos; omega
  refine RT.uniq (RT.bot_pos h) d0 (RT.cop h) (by rw [Int.natAbs_natCast]; exact q.reduced) ?_
  have c := RT.cross (t := t) h
  have c' : ((RT.top t b : Int) : Rat) * (b : Rat) = (t : Rat) * ((RT.bot t b : Int) : Rat) := by rw [← Rat.intCast_mul, c, Rat.intCast_mul]
  have n1 := nd q
  have b0 := i0 h
  refine Rat.intCast_inj.mp ?_
  rw [Rat.intCast_mul, Rat.intCast_mul]
  grind
theorem num0 {q : Rat} : q.num = 0 ↔ q = 0 := Rat.num_eq_zero
/-- z over m is the number -/
theorem den_dvd {q : Rat} {z m : Int} (h : m ≠ 0) (e : (z : Rat) = q * (m : Rat)) : (q.den : Int) ∣ m ∧ q.num ∣ z := by
  obtain ⟨e1, e2⟩ := low h e
  rw [← e1, ← e2]
  exact ⟨⟨RT.byv z m, (RT.bot_mul h).symm⟩, ⟨RT.byv z m, (RT.top_mul h).symm⟩⟩
end RQ

set_option exponentiation.threshold 100000
namespace RT
/-- the sum of the products of n / d with m / e, each step in lowest terms -/
def due (n d m e : Nat → Int) : Nat → Int × Int
  | 0 => (0, 1)
  | k + 1 => if n k ≠ 0 ∧ m k ≠ 0 then
      (top ((due n d m e k).1 * bot (n k * m k) (d k * e k) + top (n k * m k) (d k * e k) * (due n d m e k).2) ((due n d m e k).2 * bot (n k * m k) (d k * e k)),
       bot ((due n d m e k).1 * bot (n k * m k) (d k * e k) + top (n k * m k) (d k * e k) * (due n d m e k).2) ((due n d m e k).2 * bot (n k * m k) (d k * e k)))
    else due n d m e k
theorem due_yes {n d m e : Nat → Int} {k : Nat} (h1 : n k ≠ 0) (h2 : m k ≠ 0) : due n d m e (k + 1) =
    (top ((due n d m e k).1 * bot (n k * m k) (d k * e k) + top (n k * m k) (d k * e k) * (due n d m e k).2) ((due n d m e k).2 * bot (n k * m k) (d k * e k)),
       bot ((due n d m e k).1 * bot (n k * m k) (d k * e k) + top (n k * m k) (d k * e k) * (due n d m e k).2) ((due n d m e k).2 * bot (n k * m k) (d k * e k))) := if_pos ⟨h1, h2⟩
theorem due_no {n d m e : Nat → Int} {k : Nat} (h : ¬ (n k ≠ 0 ∧ m k ≠ 0)) : due n d m e (k + 1) = due n d m e k := if_neg h
abbrev BB : Nat := 2 ^ 134
/-- of at most 67 bits, the bottom above 0 -/
structure Fr (x y : Int) : Prop where
  n : x.natAbs < 2 ^ 67
  d : y.natAbs < 2 ^ 67
  p : 0 < y
structure DueOk (k : Nat) (p : Int × Int) : Prop where
  pos : 0 < p.2
  co : Nat.Coprime p.1.natAbs p.2.natAbs
  bot : p.2.natAbs ≤ BB ^ k
  top : p.1.natAbs ≤ k * BB * p.2.natAbs
theorem prod_lt {x y : Int} (h : x.natAbs < 2 ^ 67) (h' : y.natAbs < 2 ^ 67) : (x * y).natAbs ≤ BB := by
  rw [Int.natAbs_mul]
  have := Nat.mul_lt_mul'' h h'
  rw [← Nat.pow_add] at this
  exact Nat.le_of_lt this
theorem due_step {k : Nat} {p : Int × Int} (h : DueOk k p) {x y : Int} (hy : 0 < y) (x1 : x.natAbs ≤ BB) (y1 : y.natAbs ≤ BB) :
    DueOk (k + 1) (RT.top (p.1 * y + x * p.2) (p.2 * y), RT.bot (p.1 * y + x * p.2) (p.2 * y)) := by
  have hD : p.2 * y ≠ 0 := Int.mul_ne_zero (by have := h.pos; omega) (by omega)
  have hDp : 0 < (p.2 * y).natAbs := Int.natAbs_pos.mpr hD
  refine ⟨bot_pos hD, cop hD, ?_, ?_⟩
  · refine Nat.le_trans (bot_le hD) ?_
    rw [Int.natAbs_mul, Nat.pow_succ]
    exact Nat.mul_le_mul h.bot y1
  · have c := cross (t := p.1 * y + x * p.2) hD
    have c' : (RT.top (p.1 * y + x * p.2) (p.2 * y)).natAbs * (p.2 * y).natAbs = (p.1 * y + x * p.2).natAbs * (RT.bot (p.1 * y + x * p.2) (p.2 * y)).natAbs := by rw [← Int.natAbs_mul, c, Int.natAbs_mul]
    have t1 : (p.1 * y + x * p.2).natAbs ≤ (k + 1) * BB * (p.2 * y).natAbs := by
      refine Nat.le_trans (Int.natAbs_add_le _ _) ?_
      rw [Int.natAbs_mul, Int.natAbs_mul, Int.natAbs_mul]
      have a1 : p.1.natAbs * y.natAbs ≤ k * BB * p.2.natAbs * y.natAbs := Nat.mul_le_mul_right _ h.top
      have a2 : x.natAbs * p.2.natAbs ≤ BB * p.2.natAbs * y.natAbs := by
        have : 1 ≤ y.natAbs := by omega
        refine Nat.le_trans (Nat.mul_le_mul_right _ x1) ?_
        exact Nat.le_mul_of_pos_right _ this
      have : (k + 1) * BB * (p.2.natAbs * y.natAbs) = k * BB * p.2.natAbs * y.natAbs + BB * p.2.natAbs * y.natAbs := by
        rw [Nat.add_mul, Nat.add_mul, Nat.one_mul]
        congr 1 <;> ac_rfl
      rw [this]
      exact Nat.add_le_add a1 a2
    refine Nat.le_of_mul_le_mul_right ?_ hDp
    show (RT.top (p.1 * y + x * p.2) (p.2 * y)).natAbs * (p.2 * y).natAbs ≤ (k + 1) * BB * (RT.bot (p.1 * y + x * p.2) (p.2 * y)).natAbs * (p.2 * y).natAbs
    rw [c']
    have := Nat.mul_le_mul_right (RT.bot (p.1 * y + x * p.2) (p.2 * y)).natAbs t1
    refine Nat.le_trans this (Nat.le_of_eq ?_)
    ac_rfl
theorem DueOk.up {k : Nat} {p : Int × Int} (h : DueOk k p) : DueOk (k + 1) p :=
  ⟨h.pos, h.co, Nat.le_trans h.bot (Nat.pow_le_pow_right (by decide) (by omega)), Nat.le_trans h.top (Nat.mul_le_mul_right _ (Nat.mul_le_mul_right _ (by omega)))⟩
theorem due_ok {n d m e : Nat → Int} : ∀ {k : Nat}, (∀ j, j < k → Fr (n j) (d j) ∧ Fr (m j) (e j)) → DueOk k (due n d m e k)
  | 0, _ => ⟨show (0 : Int) < 1 by decide, Nat.coprime_one_right _, show 1 ≤ 1 by decide, Nat.zero_le _⟩
  | k + 1, h => by
    have i := due_ok (k := k) fun j hj => h j (by omega)
    obtain ⟨f1, f2⟩ := h k (by omega)
    by_cases z : n k ≠ 0 ∧ m k ≠ 0
    · rw [due_yes z.1 z.2]
      have hb : d k * e k ≠ 0 := Int.mul_ne_zero (by have := f1.p; omega) (by have := f2.p; omega)
      exact due_step i (bot_pos hb) (Nat.le_trans (top_le hb) (prod_lt f1.n f2.n)) (Nat.le_trans (bot_le hb) (prod_lt f1.d f2.d))
    · rw [due_no z]
      exact i.up
/-- the running sum over one bottom -/
structure SumAt (n d m e : Nat → Int) (k : Nat) (t b : Int) : Prop where
  pos : 0 < b
  bot : b.natAbs ≤ BB ^ k
  top : t.natAbs ≤ k * BB * b.natAbs
  eq : t * (due n d m e k).2 = (due n d m e k).1 * b
def lcmI (x y : Int) : Int := ((Nat.lcm x.natAbs y.natAbs : Nat) : Int)
theorem lcm_l (x y : Int) : x ∣ lcmI x y := by
  unfold lcmI
  exact Int.natAbs_dvd_natAbs.mp (by rw [Int.natAbs_natCast]; exact Nat.dvd_lcm_left _ _)
theorem lcm_r (x y : Int) : y ∣ lcmI x y := by
  unfold lcmI
  exact Int.natAbs_dvd_natAbs.mp (by rw [Int.natAbs_natCast]; exact Nat.dvd_lcm_right _ _)
theorem lcm_pos {x y : Int} (hx : 0 < x) (hy : 0 < y) : 0 < lcmI x y := by
  unfold lcmI
  have : 0 < Nat.lcm x.natAbs y.natAbs := Nat.lcm_pos (by omega) (by omega)
  omega
theorem lcm_le {x y : Int} (hx : 0 < x) (hy : 0 < y) : (lcmI x y).natAbs ≤ x.natAbs * y.natAbs := by
  unfold lcmI
  rw [Int.natAbs_natCast]
  exact Nat.le_of_dvd (Nat.mul_pos (by omega) (by omega)) (Nat.lcm_dvd_mul _ _)
theorem sum_zero {n d m e : Nat → Int} : SumAt n d m e 0 0 1 := ⟨by decide, by decide, by decide, by rfl⟩
theorem sum_no {n d m e : Nat → Int} {k : Nat} {t b : Int} (h : SumAt n d m e k t b) (z : n k * m k = 0) : SumAt n d m e (k + 1) t b := by
  refine ⟨h.pos, Nat.le_trans h.bot (Nat.pow_le_pow_right (by decide) (by omega)), Nat.le_trans h.top (Nat.mul_le_mul_right _ (Nat.mul_le_mul_right _ (by omega))), ?_⟩
  rw [due_no (fun ⟨x, y⟩ => Int.mul_ne_zero x y z)]
  exact h.eq
theorem sum_yes {n d m e : Nat → Int} {k : Nat} {t b : Int} (h : SumAt n d m e k t b) (f : ∀ j, j < k + 1 → Fr (n j) (d j) ∧ Fr (m j) (e j)) (z : n k * m k ≠ 0) :
    SumAt n d m e (k + 1) (t * (lcmI b (d k * e k)).fdiv b + n k * m k * (lcmI b (d k * e k)).fdiv (d k * e k)) (lcmI b (d k * e k)) := by
  obtain ⟨f1, f2⟩ := f k (by omega)
  have hb : 0 < d k * e k := Int.mul_pos f1.p f2.p
  have hL := lcm_pos h.pos hb
  have c1 := fdiv_of_dvd (by have := h.pos; omega) (lcm_l b (d k * e k))
  have c2 := fdiv_of_dvd (by omega) (lcm_r b (d k * e k))
  have hle := lcm_le h.pos hb
  generalize lcmI b (d k * e k) = L at *
  generalize L.fdiv b = q1 at *
  generalize L.fdiv (d k * e k) = q2 at *
  have dk := due_ok (n := n) (d := d) (m := m) (e := e) (k := k) fun j hj => f j (by omega)
  refine ⟨hL, ?_, ?_, ?_⟩
  · rw [Nat.pow_succ]
    exact Nat.le_trans hle (Nat.mul_le_mul h.bot (prod_lt f1.d f2.d))
  · refine Nat.le_trans (Int.natAbs_add_le _ _) ?_
    have e1 : q1.natAbs * b.natAbs = L.natAbs := by rw [← Int.natAbs_mul, c1]
    have e2 : q2.natAbs * (d k * e k).natAbs = L.natAbs := by rw [← Int.natAbs_mul, c2]
    have a1 : (t * q1).natAbs ≤ k * BB * L.natAbs := by
      rw [Int.natAbs_mul, ← e1]
      refine Nat.le_trans (Nat.mul_le_mul_right _ h.top) (Nat.le_of_eq ?_)
      ac_rfl
    have a2 : (n k * m k * q2).natAbs ≤ BB * L.natAbs := by
      rw [Int.natAbs_mul]
      refine Nat.mul_le_mul (prod_lt f1.n f2.n) ?_
      rw [← e2]
      exact Nat.le_mul_of_pos_right _ (by omega)
    have : (k + 1) * BB * L.natAbs = k * BB * L.natAbs + BB * L.natAbs := by
      rw [Nat.add_mul, Nat.add_mul, Nat.one_mul]
    rw [this]
    exact Nat.add_le_add a1 a2
  · have z1 : n k ≠ 0 := fun z' => z (by rw [z', Int.zero_mul])
    have z2 : m k ≠ 0 := fun z' => z (by rw [z', Int.mul_zero])
    rw [due_yes z1 z2]
    have hbn : d k * e k ≠ 0 := by omega
    have x1 := cross (t := n k * m k) hbn
    have y0 := bot_pos (t := n k * m k) hbn
    have he := h.eq
    have p0 := dk.pos
    generalize due n d m e k = p at *
    generalize RT.top (n k * m k) (d k * e k) = x at *
    generalize RT.bot (n k * m k) (d k * e k) = y at *
    have hD : p.2 * y ≠ 0 := Int.mul_ne_zero (by omega) (by omega)
    have c := cross (t := p.1 * y + x * p.2) hD
    have key : (t * q1 + n k * m k * q2) * (p.2 * y) = (p.1 * y + x * p.2) * L := by
      calc (t * q1 + n k * m k * q2) * (p.2 * y) = t * p.2 * (q1 * y) + n k * m k * y * (q2 * p.2) := by
            rw [Int.add_mul]; congr 1 <;> ac_rfl
        _ = p.1 * b * (q1 * y) + x * (d k * e k) * (q2 * p.2) := by rw [he, x1]
        _ = p.1 * y * (q1 * b) + x * p.2 * (q2 * (d k * e k)) := by congr 1 <;> ac_rfl
        _ = p.1 * y * L + x * p.2 * L := by rw [c1, c2]
        _ = _ := by rw [Int.add_mul]
    show (t * q1 + n k * m k * q2) * RT.bot (p.1 * y + x * p.2) (p.2 * y) = RT.top (p.1 * y + x * p.2) (p.2 * y) * L
    refine Int.eq_of_mul_eq_mul_right hD ?_
    calc (t * q1 + n k * m k * q2) * RT.bot (p.1 * y + x * p.2) (p.2 * y) * (p.2 * y) = ((t * q1 + n k * m k * q2) * (p.2 * y)) * RT.bot (p.1 * y + x * p.2) (p.2 * y) := by ac_rfl
      _ = ((p.1 * y + x * p.2) * RT.bot (p.1 * y + x * p.2) (p.2 * y)) * L := by rw [key]; ac_rfl
      _ = (RT.top (p.1 * y + x * p.2) (p.2 * y) * (p.2 * y)) * L := by rw [c]
      _ = RT.top (p.1 * y + x * p.2) (p.2 * y) * L * (p.2 * y) := by ac_rfl
theorem sum_end {n d m e : Nat → Int} {k : Nat} {t b : Int} (h : SumAt n d m e k t b) (f : ∀ j, j < k → Fr (n j) (d j) ∧ Fr (m j) (e j)) : RT.top t b = (due n d m e k).1 ∧ RT.bot t b = (due n d m e k).2 := by
  have dk := due_ok f
  have p0 := dk.pos
  have k1 := keeps dk.pos dk.co
  have s := same (t := t) (b := b) (t' := (due n d m e k).1) (b' := (due n d m e k).2) (by have := h.pos; omega) (by omega) h.eq
  exact ⟨s.1.trans k1.1, s.2.trans k1.2⟩
theorem BB_pow {k : Nat} (h : k ≤ 60) : BB ^ k ≤ 2 ^ 8040 := by
  have : BB ^ k ≤ BB ^ 60 := Nat.pow_le_pow_right (by decide) h
  exact Nat.le_trans this (by rw [← Nat.pow_mul]; exact Nat.le_refl _)
theorem BB_top {k x : Nat} (h : k ≤ 60) (hx : x ≤ 2 ^ 8040) : k * BB * x < 2 ^ 8200 := by
  have h1 : k * BB ≤ 2 ^ 6 * 2 ^ 134 := Nat.mul_le_mul_right _ (by omega)
  have h2 : k * BB * x ≤ 2 ^ 6 * 2 ^ 134 * 2 ^ 8040 := Nat.mul_le_mul h1 hx
  rw [← Nat.pow_add, ← Nat.pow_add] at h2
  exact Nat.lt_of_le_of_lt h2 (Nat.pow_lt_pow_right (by decide) (by decide))
end RT

set_option Elab.async false
set_option maxRecDepth 100000
set_option exponentiation.threshold 100000
namespace RX
open PySem L2
def rLcm : List V → Hp → VK → Prop := fun vs H Q => ∃ a b : Int, vs = [.int a, .int b] ∧ a.natAbs < 2 ^ 13000 ∧ b.natAbs < 2 ^ 13000 ∧ Q (.int (RT.lcmI a b)) H
theorem lcm_log {x : Nat} (h : x < 2 ^ 13000) : ¬ (max 1 x).log2 / 30 + 1 > 450 := by
  have : (max 1 x).log2 < 13000 := by
    refine (Nat.log2_lt (by omega)).mpr ?_
    have : 1 < 2 ^ 13000 := Nat.one_lt_two_pow (by decide)
    omega
  omega
theorem cr_lcm {X : Cx} : CallR X (.builtin "math.lcm") rLcm := by
  intro pins s σ H vs us Q I r h
  obtain ⟨a, b, rfl, ha, hb, q⟩ := h
  obtain ⟨t, u, rfl⟩ := Vals.int2 r
  have e1 : ((Nat.lcm 1 a.natAbs).lcm b.natAbs : Nat) = Nat.lcm a.natAbs b.natAbs := by rw [Nat.lcm_one_left]
  have hm : max a.natAbs b.natAbs < 2 ^ 13000 := by omega
  have g := PySem.W.mg_run_lcm a t b u (lcm_log ha) (by
      have := lcm_log hm
      have h2 : (max a.natAbs b.natAbs).log2 ≤ (max 1 (max a.natAbs b.natAbs)).log2 := by
        by_cases z : max a.natAbs b.natAbs = 0
        · rw [z]; exact Nat.zero_le _
        · rw [show max 1 (max a.natAbs b.natAbs) = max a.natAbs b.natAbs by omega]; exact Nat.le_refl _
      omega) (by
      rw [e1, Int.natAbs_natCast]
      have h3 : Nat.lcm a.natAbs b.natAbs < 2 ^ 26000 := by
        by_cases z : a.natAbs = 0
        · rw [z, Nat.lcm_zero_left]; exact Nat.two_pow_pos _
        by_cases z2 : b.natAbs = 0
        · rw [z2, Nat.lcm_zero_right]; exact Nat.two_pow_pos _
        refine Nat.lt_of_le_of_lt (Nat.le_of_dvd (Nat.mul_pos (by omega) (by omega)) (Nat.lcm_dvd_mul _ _)) ?_
        have := Nat.mul_lt_mul'' ha hb
        rw [← Nat.pow_add] at this
        exact this
      by_cases z : Nat.lcm a.natAbs b.natAbs = 0
      · rw [z]; decide
      · exact Nat.lt_of_lt_of_le ((Nat.log2_lt z).mpr h3) (by decide))
  rw [e1] at g
  exact PySem.call_function_meets PySem.W.MGF.kind_lcm PySem.W.MGF.plain_lcm PySem.W.MGF.entry_lcm (PySem.W.MGF.args_lcm _ _) g.meets ⟨.int _, H, I.tok _, ⟨_, rfl⟩, q⟩
end RX


set_option Elab.async false
set_option maxRecDepth 100000
/-! rows of numbers: products, what a row taken from another leaves, tables in reduced form -/
namespace VM
open RQ
/-- the sum of the products of the first w -/
def dot (u y : Nat → Rat) : Nat → Rat
  | 0 => 0
  | w + 1 => dot u y w + u w * y w
theorem dot_congr {u u' y y' : Nat → Rat} : ∀ {w : Nat}, (∀ j, j < w → u j = u' j) → (∀ j, j < w → y j = y' j) → dot u y w = dot u' y' w
  | 0, _, _ => rfl
  | w + 1, h, k => by
    unfold dot
    rw [dot_congr (fun j hj => h j (by omega)) (fun j hj => k j (by omega)), h w (by omega), k w (by omega)]
theorem dot_lin {u v y : Nat → Rat} (s c : Rat) : ∀ {w : Nat}, dot (fun j => s * (u j - c * v j)) y w = s * (dot u y w - c * dot v y w)
  | 0 => by unfold dot; grind
  | w + 1 => by
    unfold dot
    rw [dot_lin s c]
    grind
theorem dot_zero {u y : Nat → Rat} : ∀ {w : Nat}, (∀ j, j < w → u j * y j = 0) → dot u y w = 0
  | 0, _ => rfl
  | w + 1, h => by
    unfold dot
    rw [dot_zero fun j hj => h j (by omega), h w (by omega)]
    grind
/-- all but one of the products are 0 -/
theorem dot_one {u y : Nat → Rat} {k : Nat} : ∀ {w : Nat}, k < w → (∀ j, j < w → j ≠ k → u j * y j = 0) → dot u y w = u k * y k
  | 0, h, _ => absurd h (by omega)
  | w + 1, h, z => by
    unfold dot
    by_cases e : k = w
    · subst e
      rw [dot_zero fun j hj => z j (by omega) (by omega)]
      grind
    · rw [dot_one (w := w) (by omega) fun j hj ne => z j (by omega) ne, z w (by omega) (by omega)]
      grind
/-- y is 0 on all rows -/
def Ann (h w : Nat) (A : Nat → Nat → Rat) (y : Nat → Rat) : Prop := ∀ i, i < h → dot (A i) y w = 0
/-- u less so much of v that it is 0 at l, times some number -/
def Less (w l : Nat) (u v u' : Nat → Rat) : Prop := ∃ s : Rat, s ≠ 0 ∧ ∀ j, j < w → u' j = s * (u j - u l / v l * v j)
theorem Less.dot {w l : Nat} {u v u' y : Nat → Rat} (h : Less w l u v u') (hv : dot v y w = 0) : dot u' y w = 0 ↔ dot u y w = 0 := by
  obtain ⟨s, hs, e⟩ := h
  rw [dot_congr e (fun _ _ => rfl), dot_lin, hv]
  constructor
  · intro z; grind
  · intro z; rw [z]; grind
theorem Less.at {w l : Nat} {u v u' : Nat → Rat} (h : Less w l u v u') (hl : l < w) (hv : v l ≠ 0) : u' l = 0 := by
  obtain ⟨s, hs, e⟩ := h
  rw [e l hl]
  grind
theorem Less.zero {w l j : Nat} {u v u' : Nat → Rat} (h : Less w l u v u') (hj : j < w) (h1 : u j = 0) (h2 : v j = 0) : u' j = 0 := by
  obtain ⟨s, hs, e⟩ := h
  rw [e j hj, h1, h2]
  grind
theorem Less.keep {w l j : Nat} {u v u' : Nat → Rat} (h : Less w l u v u') (hj : j < w) (h1 : u j ≠ 0) (h2 : v j = 0) : u' j ≠ 0 := by
  obtain ⟨s, hs, e⟩ := h
  rw [e j hj, h2]
  intro z
  grind
theorem Less.refl {w l : Nat} {u v : Nat → Rat} (h : u l = 0) : Less w l u v u := ⟨1, by decide, fun j _ => by rw [h]; grind⟩
/-- found rows: each with its own lead, 0 ahead of it and at the leads of the earlier ones -/
structure Ech (n w : Nat) (l : Nat → Nat) (v : Nat → Nat → Rat) : Prop where
  lt : ∀ k, k < n → l k < w
  nz : ∀ k, k < n → v k (l k) ≠ 0
  zb : ∀ k, k < n → ∀ j, j < l k → v k j = 0
  zz : ∀ k, k < n → ∀ i, i < k → v k (l i) = 0
theorem Ech.inj {n w : Nat} {l : Nat → Nat} {v : Nat → Nat → Rat} (E : Ech n w l v) {i k : Nat} (hi : i < n) (hk : k < n) (e : l i = l k) : i = k := by
  rcases Nat.lt_trichotomy i k with h | h | h
  · have := E.zz k hk i h
    rw [e] at this
    exact absurd this (E.nz k hk)
  · exact h
  · have := E.zz i hi k h
    rw [← e] at this
    exact absurd this (E.nz i hi)
/-- a table in reduced form -/
structure Rref (r w : Nat) (F : Nat → Nat → Rat) (L : Nat → Nat) : Prop where
  lt : ∀ t, t < r → L t < w
  up : ∀ s t, s < t → t < r → L s < L t
  one : ∀ t, t < r → F t (L t) = 1
  off : ∀ s t, s < r → t < r → s ≠ t → F s (L t) = 0
  zb : ∀ t, t < r → ∀ j, j < L t → F t j = 0
/-! ### sizes -/
/-- bottoms that divide the column's, tops of at most b bits -/
structure VB (M : Nat → Int) (b w : Nat) (u : Nat → Rat) : Prop where
  d : ∀ j, j < w → ((u j).den : Int) ∣ M j
  n : ∀ j, j < w → Bt b (u j).num
structure MB (M : Nat → Int) (m w : Nat) : Prop where
  p : ∀ j, j < w → 0 < M j
  b : ∀ j, j < w → Bt m (M j)
theorem VB.up {M : Nat → Int} {a b w : Nat} {u : Nat → Rat} (h : VB M a w u) (l : a ≤ b) : VB M b w u := ⟨h.d, fun j hj => (h.n j hj).up l⟩
theorem VB.den {M : Nat → Int} {m b w : Nat} {u : Nat → Rat} (h : VB M b w u) (k : MB M m w) {j : Nat} (hj : j < w) : Bt m ((u j).den : Int) := by
  refine (k.b j hj).le ?_
  have := k.p j hj
  exact Nat.le_of_dvd (by omega) (Int.natAbs_dvd_natAbs.mpr (h.d j hj))
theorem dvd_bt {b : Nat} {x y : Int} (h : x ∣ y) (z : y ≠ 0) (k : Bt b y) : Bt b x := k.le (Nat.le_of_dvd (by omega) (Int.natAbs_dvd_natAbs.mpr h))
/-- the factor: its sizes -/
theorem part_bt {M : Nat → Int} {m b1 b2 w l : Nat} {u v : Nat → Rat} (hu : VB M b1 w u) (hv : VB M b2 w v) (k : MB M m w) (hl : l < w) (u0 : u l ≠ 0) (v0 : v l ≠ 0) :
    Bt (b1 + m) (u l / v l).num ∧ Bt (m + b2) ((u l / v l).den : Int) := by
  have e1 := nd (u l)
  have e2 := nd (v l)
  have d1 := den0 (u l)
  have d2 := den0 (v l)
  have n1 : (u l).num ≠ 0 := fun z => u0 (num0.mp z)
  have n2 : (v l).num ≠ 0 := fun z => v0 (num0.mp z)
  have p1 : ((u l).den : Int) ≠ 0 := by have := (u l).den_pos; omega
  have p2 : ((v l).den : Int) ≠ 0 := by have := (v l).den_pos; omega
  have e : (((u l).num * ((v l).den : Int) : Int) : Rat) = u l / v l * (((((u l).den : Int) * (v l).num) : Int) : Rat) := by
    rw [Rat.intCast_mul, Rat.intCast_mul, e1, e2]
    grind
  obtain ⟨q1, q2⟩ := den_dvd (Int.mul_ne_zero p1 n2) e
  refine ⟨dvd_bt q2 (Int.mul_ne_zero n1 p2) ((hu.n l hl).mul (hv.den k hl)), dvd_bt q1 (Int.mul_ne_zero p1 n2) ((hu.den k hl).mul (hv.n l hl))⟩
/-- the tops and bottoms that freeing makes -/
def bt (u v : Nat → Rat) (j : Nat) : Int := ((Nat.lcm (u j).den (v j).den : Nat) : Int)
def tp (u v : Nat → Rat) (l j : Nat) : Int := (u j).num * (bt u v j).fdiv ((u j).den : Int) * ((u l / v l).den : Int) - (v j).num * (bt u v j).fdiv ((v j).den : Int) * (u l / v l).num
theorem bt_pos (u v : Nat → Rat) (j : Nat) : 0 < bt u v j := by
  unfold bt
  have : 0 < Nat.lcm (u j).den (v j).den := Nat.lcm_pos (u j).den_pos (v j).den_pos
  omega
theorem bt_l (u v : Nat → Rat) (j : Nat) : ((u j).den : Int) ∣ bt u v j := by
  unfold bt
  exact Int.natCast_dvd_natCast.mpr (Nat.dvd_lcm_left _ _)
theorem bt_r (u v : Nat → Rat) (j : Nat) : ((v j).den : Int) ∣ bt u v j := by
  unfold bt
  exact Int.natCast_dvd_natCast.mpr (Nat.dvd_lcm_right _ _)
theorem bt_dvd {M : Nat → Int} {m b1 b2 w j : Nat} {u v : Nat → Rat} (hu : VB M b1 w u) (hv : VB M b2 w v) (k : MB M m w) (hj : j < w) : bt u v j ∣ M j := by
  unfold bt
  have h1 := Int.natAbs_dvd_natAbs.mpr (hu.d j hj)
  have h2 := Int.natAbs_dvd_natAbs.mpr (hv.d j hj)
  refine Int.natAbs_dvd_natAbs.mp ?_
  rw [Int.natAbs_natCast] at *
  exact Nat.lcm_dvd h1 h2
theorem tp_eq (u v : Nat → Rat) (l j : Nat) : ((tp u v l j : Int) : Rat) = ((u l / v l).den : Int) * (u j - u l / v l * v j) * ((bt u v j : Int) : Rat) := by
  have c1 := RT.fdiv_of_dvd (by have := (u j).den_pos; omega) (bt_l u v j)
  have c2 := RT.fdiv_of_dvd (by have := (v j).den_pos; omega) (bt_r u v j)
  have e1 := nd (u j)
  have e2 := nd (v j)
  have e3 := nd (u l / v l)
  have r1 : (((bt u v j).fdiv ((u j).den : Int) : Int) : Rat) * (((u j).den : Int) : Rat) = ((bt u v j : Int) : Rat) := by rw [← Rat.intCast_mul, c1]
  have r2 : (((bt u v j).fdiv ((v j).den : Int) : Int) : Rat) * (((v j).den : Int) : Rat) = ((bt u v j : Int) : Rat) := by rw [← Rat.intCast_mul, c2]
  unfold tp
  rw [Rat.intCast_sub, Rat.intCast_mul, Rat.intCast_mul, Rat.intCast_mul, Rat.intCast_mul]
  generalize (((bt u v j).fdiv ((u j).den : Int) : Int) : Rat) = q1 at *
  generalize (((bt u v j).fdiv ((v j).den : Int) : Int) : Rat) = q2 at *
  generalize ((bt u v j : Int) : Rat) = B at *
  generalize u l / v l = c at *
  generalize ((c.den : Int) : Rat) = cd at *
  generalize (((u j).den : Int) : Rat) = ud at *
  generalize (((v j).den : Int) : Rat) = vd at *
  generalize ((u j).num : Rat) = un at *
  generalize ((v j).num : Rat) = vn at *
  generalize (c.num : Rat) = cn at *
  subst e1 e2 e3
  grind
theorem quot_bt {m : Nat} {x y : Int} (h : y ∣ x) (hy : y ≠ 0) (k : Bt m x) : Bt m (x.fdiv y) := by
  have e := RT.fdiv_of_dvd hy h
  refine k.le ?_
  rw [← congrArg Int.natAbs e, Int.natAbs_mul]
  exact Nat.le_mul_of_pos_right _ (by omega)
theorem tp_bt {M : Nat → Int} {m b1 b2 w l j : Nat} {u v : Nat → Rat} (hu : VB M b1 w u) (hv : VB M b2 w v) (k : MB M m w) (hl : l < w) (hj : j < w) (u0 : u l ≠ 0) (v0 : v l ≠ 0) :
    Bt m (bt u v j) ∧ Bt (b1 + m) ((u j).num * (bt u v j).fdiv ((u j).den : Int)) ∧ Bt (b2 + m) ((v j).num * (bt u v j).fdiv ((v j).den : Int)) ∧ Bt (b1 + b2 + 2 * m + 1) (tp u v l j) := by
  obtain ⟨c1, c2⟩ := part_bt hu hv k hl u0 v0
  have B : Bt m (bt u v j) := dvd_bt (bt_dvd hu hv k hj) (by have := k.p j hj; omega) (k.b j hj)
  have q1 := quot_bt (bt_l u v j) (by have := (u j).den_pos; omega) B
  have q2 := quot_bt (bt_r u v j) (by have := (v j).den_pos; omega) B
  have t1 := (hu.n j hj).mul q1
  have t2 := (hv.n j hj).mul q2
  refine ⟨B, t1, t2, ?_⟩
  exact ((t1.mul c2).up (by omega)).sub ((t2.mul c1).up (by omega))
end VM

set_option Elab.async false
set_option maxRecDepth 100000
namespace VM
open RQ
/-- the greatest factor of the first k -/
def gf (z : Nat → Int) : Nat → Nat
  | 0 => 0
  | k + 1 => Nat.gcd (gf z k) (z k).natAbs
theorem gf_dvd {z : Nat → Int} : ∀ {k j : Nat}, j < k → ((gf z k : Nat) : Int) ∣ z j
  | 0, _, h => absurd h (by omega)
  | k + 1, j, h => by
    unfold gf
    by_cases e : j = k
    · subst e
      exact Int.natAbs_dvd_natAbs.mp (by rw [Int.natAbs_natCast]; exact Nat.gcd_dvd_right _ _)
    · have := gf_dvd (z := z) (k := k) (j := j) (by omega)
      exact Int.dvd_trans (Int.natCast_dvd_natCast.mpr (Nat.gcd_dvd_left _ _)) this
theorem gf_pos {z : Nat → Int} : ∀ {k j : Nat}, j < k → z j ≠ 0 → 0 < gf z k
  | 0, _, h, _ => absurd h (by omega)
  | k + 1, j, h, n => by
    unfold gf
    by_cases e : j = k
    · subst e
      exact Nat.gcd_pos_of_pos_right _ (by omega)
    · exact Nat.gcd_pos_of_pos_left _ (gf_pos (z := z) (k := k) (j := j) (by omega) n)
def bz (u v : Nat → Rat) (l j : Nat) : Int := if tp u v l j = 0 then 0 else bt u v j
theorem sub_cast (a b : Int) : ((a - b : Int) : Rat) = (a : Rat) - (b : Rat) := Rat.intCast_sub a b
/-- what freeing makes of each place -/
theorem freed {M : Nat → Int} {m b1 b2 w l : Nat} {u v : Nat → Rat} (hu : VB M b1 w u) (hv : VB M b2 w v) (k : MB M m w) (hl : l < w) (u0 : u l ≠ 0) (v0 : v l ≠ 0) :
    ∃ u' : Nat → Rat, Less w l u v u' ∧ VB M (b1 + b2 + 2 * m + 1) w u' ∧ ∀ j, j < w →
      (tp u v l j = 0 → u' j = 0) ∧
      (tp u v l j ≠ 0 → ((gf (tp u v l) w : Nat) : Int) ≠ 0 ∧ ((gf (bz u v l) w : Nat) : Int) ≠ 0 ∧ (bt u v j).fdiv ((gf (bz u v l) w : Nat) : Int) ≠ 0 ∧
        RT.top ((tp u v l j).fdiv ((gf (tp u v l) w : Nat) : Int)) ((bt u v j).fdiv ((gf (bz u v l) w : Nat) : Int)) = (u' j).num ∧
        RT.bot ((tp u v l j).fdiv ((gf (tp u v l) w : Nat) : Int)) ((bt u v j).fdiv ((gf (bz u v l) w : Nat) : Int)) = ((u' j).den : Int)) := by
  have cd := den0 (u l / v l)
  by_cases all : ∀ j, j < w → tp u v l j = 0
  · refine ⟨fun _ => 0, ⟨1, by decide, fun j hj => ?_⟩, ⟨fun j hj => ⟨M j, by show M j = 1 * M j; rw [Int.one_mul]⟩, fun j hj => ?_⟩, fun j hj => ⟨fun _ => rfl, fun n => absurd (all j hj) n⟩⟩
    · have e := tp_eq u v l j
      rw [all j hj] at e
      have b0 := i0 (show bt u v j ≠ 0 by have := bt_pos u v j; omega)
      have e0 : ((0 : Int) : Rat) = 0 := rfl
      rw [e0] at e
      grind
    · show Bt _ (0 : Rat).num
      exact Nat.two_pow_pos _
  · obtain ⟨i, hi, hn⟩ : ∃ i, i < w ∧ tp u v l i ≠ 0 := by
      refine Classical.byContradiction fun no => all fun j hj => Classical.byContradiction fun n => no ⟨j, hj, n⟩
    have A0 := gf_pos (z := tp u v l) hi hn
    have bn : bz u v l i ≠ 0 := by unfold bz; rw [if_neg hn]; have := bt_pos u v i; omega
    have B0 := gf_pos (z := bz u v l) hi bn
    generalize hA : gf (tp u v l) w = A at *
    generalize hB : gf (bz u v l) w = B at *
    have A1 : ((A : Nat) : Int) ≠ 0 := by omega
    have B1 : ((B : Nat) : Int) ≠ 0 := by omega
    have A2 := i0 A1
    have B2 := i0 B1
    have s0 : ((B : Int) : Rat) / ((A : Int) : Rat) * (((u l / v l).den : Int) : Rat) ≠ 0 := by
      intro z; grind
    have val : ∀ j, j < w → tp u v l j ≠ 0 → ((B : Nat) : Int) ∣ bt u v j ∧ (bt u v j).fdiv ((B : Nat) : Int) ≠ 0 ∧
        (((tp u v l j).fdiv ((A : Nat) : Int) : Int) : Rat) = ((B : Int) : Rat) / ((A : Int) : Rat) * (((u l / v l).den : Int) : Rat) * (u j - u l / v l * v j) * (((bt u v j).fdiv ((B : Nat) : Int) : Int) : Rat) := fun j hj n => by
      have dA : ((A : Nat) : Int) ∣ tp u v l j := by rw [← hA]; exact gf_dvd hj
      have dB : ((B : Nat) : Int) ∣ bt u v j := by
        have := gf_dvd (z := bz u v l) hj
        rw [hB] at this
        unfold bz at this
        rw [if_neg n] at this
        exact this
      have f1 := RT.fdiv_of_dvd A1 dA
      have f2 := RT.fdiv_of_dvd B1 dB
      have bp := bt_pos u v j
      have ne : (bt u v j).fdiv ((B : Nat) : Int) ≠ 0 := fun z => by rw [z, Int.zero_mul] at f2; omega
      refine ⟨dB, ne, ?_⟩
      have e := tp_eq u v l j
      have g1 : (((tp u v l j).fdiv ((A : Nat) : Int) : Int) : Rat) * ((A : Int) : Rat) = ((tp u v l j : Int) : Rat) := by rw [← Rat.intCast_mul, f1]
      have g2 : (((bt u v j).fdiv ((B : Nat) : Int) : Int) : Rat) * ((B : Int) : Rat) = ((bt u v j : Int) : Rat) := by rw [← Rat.intCast_mul, f2]
      rw [e] at g1
      grind
    refine ⟨fun j => ((B : Int) : Rat) / ((A : Int) : Rat) * (((u l / v l).den : Int) : Rat) * (u j - u l / v l * v j), ⟨_, s0, fun _ _ => rfl⟩, ⟨fun j hj => ?_, fun j hj => ?_⟩, fun j hj => ⟨fun z => ?_, fun n => ?_⟩⟩
    · by_cases n : tp u v l j = 0
      · have e := tp_eq u v l j
        rw [n] at e
        have b0 := i0 (show bt u v j ≠ 0 by have := bt_pos u v j; omega)
        have e0 : ((0 : Int) : Rat) = 0 := rfl
        rw [e0] at e
        have x0 : u j - u l / v l * v j = 0 := by grind
        show ((((B : Int) : Rat) / ((A : Int) : Rat) * (((u l / v l).den : Int) : Rat) * (u j - u l / v l * v j)).den : Int) ∣ M j
        rw [x0, Rat.mul_zero]
        exact ⟨M j, by show M j = 1 * M j; rw [Int.one_mul]⟩
      · obtain ⟨dB, ne, e⟩ := val j hj n
        have d1 := (den_dvd ne e).1
        refine Int.dvd_trans d1 (Int.dvd_trans ?_ (bt_dvd hu hv k hj))
        exact ⟨((B : Nat) : Int), (RT.fdiv_of_dvd B1 dB).symm⟩
    · by_cases n : tp u v l j = 0
      · have e := tp_eq u v l j
        rw [n] at e
        have b0 := i0 (show bt u v j ≠ 0 by have := bt_pos u v j; omega)
        have e0 : ((0 : Int) : Rat) = 0 := rfl
        rw [e0] at e
        have x0 : u j - u l / v l * v j = 0 := by grind
        show Bt _ (((B : Int) : Rat) / ((A : Int) : Rat) * (((u l / v l).den : Int) : Rat) * (u j - u l / v l * v j)).num
        rw [x0, Rat.mul_zero]
        exact Nat.two_pow_pos _
      · obtain ⟨dB, ne, e⟩ := val j hj n
        have d1 := (den_dvd ne e).2
        have dA : ((A : Nat) : Int) ∣ tp u v l j := by rw [← hA]; exact gf_dvd hj
        have f1 := RT.fdiv_of_dvd A1 dA
        have z1 : (tp u v l j).fdiv ((A : Nat) : Int) ≠ 0 := fun z => by rw [z, Int.zero_mul] at f1; exact n f1.symm
        exact dvd_bt d1 z1 (quot_bt dA A1 (tp_bt hu hv k hl hj u0 v0).2.2.2)
    · have e := tp_eq u v l j
      rw [z] at e
      have b0 := i0 (show bt u v j ≠ 0 by have := bt_pos u v j; omega)
      have e0 : ((0 : Int) : Rat) = 0 := rfl
      rw [e0] at e
      have x0 : u j - u l / v l * v j = 0 := by grind
      show ((B : Int) : Rat) / ((A : Int) : Rat) * (((u l / v l).den : Int) : Rat) * (u j - u l / v l * v j) = 0
      rw [x0, Rat.mul_zero]
    · obtain ⟨dB, ne, e⟩ := val j hj n
      obtain ⟨q1, q2⟩ := low ne e
      exact ⟨A1, B1, ne, q1, q2⟩
end VM

set_option Elab.async false
set_option maxRecDepth 100000
namespace VM
open RQ
/-- bits behind k steps -/
def bK (m e : Nat) : Nat → Nat
  | 0 => e - (2 * m + 1)
  | k + 1 => bK m e k + bK m e k + 2 * m + 1
theorem bK_le {m e : Nat} (h : 2 * m + 1 ≤ e) : ∀ k : Nat, bK m e k + (2 * m + 1) = 2 ^ k * e
  | 0 => by unfold bK; omega
  | k + 1 => by
    have := bK_le h k
    unfold bK
    rw [Nat.pow_succ, Nat.mul_assoc, Nat.mul_comm 2 e, ← Nat.mul_assoc, ← this]
    omega
theorem bK_mono {m e : Nat} {i k : Nat} (h : i ≤ k) : bK m e i ≤ bK m e k := by
  induction h with
  | refl => exact Nat.le_refl _
  | @step k _ ih =>
    show bK m e i ≤ bK m e k + bK m e k + 2 * m + 1
    omega
theorem bK_max {m e k R N : Nat} (h : 2 * m + 1 ≤ e) (hk : k ≤ R) (hN : 2 ^ R * e ≤ N) : bK m e k ≤ N := by
  have h1 := bK_le h R
  have h2 := bK_mono (m := m) (e := e) hk
  omega
/-- unlike numbers below w are at most w -/
theorem pigeon : ∀ {w : Nat} {xs : List Nat}, xs.Nodup → (∀ x ∈ xs, x < w) → xs.length ≤ w
  | 0, xs, _, h => by
    cases xs with
    | nil => exact Nat.le_refl _
    | cons x xs => exact absurd (h x List.mem_cons_self) (by omega)
  | w + 1, xs, nd, h => by
    have nd' : (xs.erase w).Nodup := nd.erase w
    have h' : ∀ x ∈ xs.erase w, x < w := fun x hx => by
      have h1 := h x (List.mem_of_mem_erase hx)
      have h2 : x ≠ w := fun e => by
        rw [e] at hx
        exact (List.Nodup.not_mem_erase nd) hx
      omega
    have ih := pigeon nd' h'
    have := List.length_erase_of_mem (a := w) (l := xs)
    by_cases hm : w ∈ xs
    · have := List.length_erase_of_mem hm
      omega
    · rw [List.erase_of_not_mem hm] at ih
      omega
theorem Ech.le {n w : Nat} {l : Nat → Nat} {v : Nat → Nat → Rat} (E : Ech n w l v) : n ≤ w := by
  have nd : ((List.range n).map l).Nodup := by
    rw [List.nodup_iff_pairwise_ne, List.pairwise_map]
    refine List.Pairwise.imp_of_mem ?_ (List.nodup_iff_pairwise_ne.mp List.nodup_range)
    intro a b ha hb ne e
    exact ne (E.inj (List.mem_range.mp ha) (List.mem_range.mp hb) e)
  have := pigeon nd fun x hx => by
    obtain ⟨k, hk, rfl⟩ := List.mem_map.mp hx
    exact E.lt k (List.mem_range.mp hk)
  rw [List.length_map, List.length_range] at this
  exact this
/-- one more at the end -/
def ex {α : Type} (f : Nat → α) (i : Nat) (x : α) : Nat → α := fun j => if j = i then x else f j
theorem ex_same {α : Type} (f : Nat → α) (i : Nat) (x : α) : ex f i x i = x := if_pos rfl
theorem ex_lt {α : Type} (f : Nat → α) {i j : Nat} (x : α) (h : j < i) : ex f i x j = f j := if_neg (by omega)
theorem Ech.more {n w k : Nat} {l : Nat → Nat} {v : Nat → Nat → Rat} {u : Nat → Rat} (E : Ech n w l v) (hk : k < w) (nz : u k ≠ 0) (zb : ∀ j, j < k → u j = 0) (zz : ∀ i, i < n → u (l i) = 0) : Ech (n + 1) w (ex l n k) (ex v n u) where
  lt := fun j hj => by
    by_cases e : j = n
    · subst e; rw [ex_same]; exact hk
    · rw [ex_lt l k (by omega)]; exact E.lt j (by omega)
  nz := fun j hj => by
    by_cases e : j = n
    · subst e; rw [ex_same, ex_same]; exact nz
    · rw [ex_lt l k (by omega), ex_lt v u (by omega)]; exact E.nz j (by omega)
  zb := fun j hj i hi => by
    by_cases e : j = n
    · subst e; rw [ex_same] at hi ⊢; exact zb i hi
    · rw [ex_lt l k (by omega)] at hi; rw [ex_lt v u (by omega)]; exact E.zb j (by omega) i hi
  zz := fun j hj i hi => by
    by_cases e : j = n
    · subst e; rw [ex_same, ex_lt l k hi]; exact zz i hi
    · rw [ex_lt v u (by omega), ex_lt l k (by omega)]; exact E.zz j (by omega) i hi
theorem ann_succ {n w : Nat} {v : Nat → Nat → Rat} {u y : Nat → Rat} : Ann (n + 1) w (ex v n u) y ↔ Ann n w v y ∧ dot u y w = 0 := by
  constructor
  · intro h
    refine ⟨fun i hi => ?_, ?_⟩
    · have := h i (by omega)
      rw [ex_lt v u hi] at this
      exact this
    · have := h n (by omega)
      rw [ex_same] at this
      exact this
  · intro h i hi
    by_cases e : i = n
    · subst e; rw [ex_same]; exact h.2
    · rw [ex_lt v u (by omega)]; exact h.1 i (by omega)
theorem ann_more {h w : Nat} {U : Nat → Nat → Rat} {y : Nat → Rat} : Ann (h + 1) w U y ↔ Ann h w U y ∧ dot (U h) y w = 0 := by
  constructor
  · intro z
    exact ⟨fun i hi => z i (by omega), z h (by omega)⟩
  · intro z i hi
    by_cases e : i = h
    · subst e; exact z.2
    · exact z.1 i (by omega)
/-! ### from the last row up -/
/-- rows that are done from t on: each with its lead, 0 ahead of it and at the leads behind -/
structure Done (t n w : Nat) (L : Nat → Nat) (z : Nat → Nat → Rat) : Prop where
  nz : ∀ k, t ≤ k → k < n → z k (L k) ≠ 0
  zb : ∀ k, t ≤ k → k < n → ∀ j, j < L k → z k j = 0
  zz : ∀ k, t ≤ k → k < n → ∀ i, k < i → i < n → z k (L i) = 0
theorem Done.rref {n w : Nat} {L : Nat → Nat} {z : Nat → Nat → Rat} (D : Done 0 n w L z) (lt : ∀ k, k < n → L k < w) (up : ∀ s t, s < t → t < n → L s < L t) : Rref n w (fun t j => z t j / z t (L t)) L where
  lt := lt
  up := up
  one := fun t ht => by
    have := D.nz t (Nat.zero_le _) ht
    grind
  off := fun s t hs ht ne => by
    have h0 : z s (L t) = 0 := by
      rcases Nat.lt_or_ge s t with h | h
      · exact D.zz s (Nat.zero_le _) hs t h ht
      · exact D.zb s (Nat.zero_le _) hs _ (up t s (by omega) hs)
    show z s (L t) / z s (L s) = 0
    rw [h0]
    grind
  zb := fun t ht j hj => by
    show z t j / z t (L t) = 0
    rw [D.zb t (Nat.zero_le _) ht j hj]
    grind
theorem dot_div {u y : Nat → Rat} {c : Rat} (hc : c ≠ 0) {w : Nat} : dot (fun j => u j / c) y w = 0 ↔ dot u y w = 0 := by
  have e : dot (fun j => u j / c) y w = dot (fun j => (1 / c) * (u j - 0 * (fun _ => (0 : Rat)) j)) y w := dot_congr (fun j _ => by grind) fun _ _ => rfl
  rw [e, dot_lin]
  constructor
  · intro h; grind
  · intro h; rw [h]; grind
end VM

set_option Elab.async false
set_option maxRecDepth 100000
namespace VM
open RQ
/-- leads sorted -/
theorem sorted_of {n : Nat} {l : Nat → Nat} (inj : ∀ i k, i < n → k < n → l i = l k → i = k) {ys : List Int} (hp : ys.Perm ((List.range n).map fun k => ((l k : Nat) : Int))) (hs : ys.Pairwise (· ≤ ·)) :
    ∃ L κ : Nat → Nat, ys = (List.range n).map (fun t => ((L t : Nat) : Int)) ∧ (∀ t, t < n → κ t < n ∧ l (κ t) = L t) ∧ (∀ s t, s < t → t < n → L s < L t) ∧ ∀ k, k < n → ∃ t, t < n ∧ κ t = k := by
  have len : ys.length = n := by rw [hp.length_eq, List.length_map, List.length_range]
  have nd : ys.Nodup := by
    refine hp.nodup_iff.mpr ?_
    rw [List.nodup_iff_pairwise_ne, List.pairwise_map]
    refine List.Pairwise.imp_of_mem ?_ (List.nodup_iff_pairwise_ne.mp List.nodup_range)
    intro a b ha hb ne e
    exact ne (inj a b (List.mem_range.mp ha) (List.mem_range.mp hb) (by omega))
  have at_ : ∀ t, t < n → ∃ k, k < n ∧ ys.getD t 0 = ((l k : Nat) : Int) := fun t ht => by
    have hm : ys.getD t 0 ∈ ys := by
      rw [List.getD_eq_getElem?_getD, List.getElem?_eq_getElem (by omega)]
      exact List.getElem_mem _
    obtain ⟨k, hk, e⟩ := List.mem_map.mp (hp.mem_iff.mp hm)
    exact ⟨k, List.mem_range.mp hk, e.symm⟩
  have ch : ∀ t, ∃ k, t < n → k < n ∧ ys.getD t 0 = ((l k : Nat) : Int) := fun t => by
    by_cases ht : t < n
    · obtain ⟨k, hk⟩ := at_ t ht
      exact ⟨k, fun _ => hk⟩
    · exact ⟨0, fun h => absurd h ht⟩
  obtain ⟨κ, hκ⟩ := Classical.axiomOfChoice ch
  have gL : ∀ t, t < n → ys[t]? = some ((l (κ t) : Nat) : Int) := fun t ht => by
    have := (hκ t ht).2
    rw [List.getD_eq_getElem?_getD, List.getElem?_eq_getElem (by omega)] at this
    rw [List.getElem?_eq_getElem (by omega)]
    exact congrArg some this
  refine ⟨fun t => l (κ t), κ, ?_, fun t ht => ⟨(hκ t ht).1, rfl⟩, fun s t hst ht => ?_, fun k hk => ?_⟩
  · refine List.ext_getElem? fun t => ?_
    by_cases ht : t < n
    · rw [gL t ht, List.getElem?_map, List.getElem?_range ht]
      rfl
    · rw [List.getElem?_eq_none (by omega), List.getElem?_eq_none (by rw [List.length_map, List.length_range]; omega)]
  · have h1 := List.pairwise_iff_getElem.mp hs s t (by omega) (by omega) hst
    have h2 := List.pairwise_iff_getElem.mp (List.nodup_iff_pairwise_ne.mp nd) s t (by omega) (by omega) hst
    have e1 := (List.getElem?_eq_some_iff.mp (gL s (by omega))).2
    have e2 := (List.getElem?_eq_some_iff.mp (gL t ht)).2
    rw [e1, e2] at h1 h2
    show l (κ s) < l (κ t)
    omega
  · have hm : ((l k : Nat) : Int) ∈ ys := hp.mem_iff.mpr (List.mem_map.mpr ⟨k, List.mem_range.mpr hk, rfl⟩)
    obtain ⟨t, ht, e⟩ := List.mem_iff_getElem.mp hm
    have htn : t < n := by omega
    have e2 := (List.getElem?_eq_some_iff.mp (gL t htn)).2
    refine ⟨t, htn, inj _ _ (hκ t htn).1 hk ?_⟩
    rw [e] at e2
    omega
/-- done rows turned about are a table in reduced form -/
theorem Ech.rref {n w : Nat} {L : Nat → Nat} {z : Nat → Nat → Rat} (E : Ech n w (fun j => L (n - 1 - j)) z) (up : ∀ s t, s < t → t < n → L s < L t) :
    Rref n w (fun t j => z (n - 1 - t) j / z (n - 1 - t) (L t)) L := by
  have back : ∀ t, t < n → n - 1 - (n - 1 - t) = t := fun t h => by omega
  have nz : ∀ t, t < n → z (n - 1 - t) (L t) ≠ 0 := fun t ht => by
    have := E.nz (n - 1 - t) (by omega)
    simp only [back t ht] at this
    exact this
  have zb : ∀ t, t < n → ∀ j, j < L t → z (n - 1 - t) j = 0 := fun t ht j hj => by
    refine E.zb (n - 1 - t) (by omega) j ?_
    simp only [back t ht]
    exact hj
  refine ⟨fun t ht => ?_, up, fun t ht => ?_, fun s t hs ht ne => ?_, fun t ht j hj => ?_⟩
  · have := E.lt (n - 1 - t) (by omega)
    simp only [back t ht] at this
    exact this
  · have := nz t ht
    grind
  · have h0 : z (n - 1 - s) (L t) = 0 := by
      rcases Nat.lt_or_ge s t with h | h
      · have := E.zz (n - 1 - s) (by omega) (n - 1 - t) (by omega)
        simp only [back t ht] at this
        exact this
      · exact zb s hs _ (up t s (by omega) hs)
    show z (n - 1 - s) (L t) / z (n - 1 - s) (L s) = 0
    rw [h0]
    grind
  · show z (n - 1 - t) j / z (n - 1 - t) (L t) = 0
    rw [zb t ht j hj]
    grind
/-- a place by another one of the same row: sizes -/
theorem div_bt {M : Nat → Int} {m b w l j : Nat} {u : Nat → Rat} (hu : VB M b w u) (k : MB M m w) (hl : l < w) (hj : j < w) (u0 : u l ≠ 0) : Bt (b + m) (u j / u l).num ∧ Bt (b + m) ((u j / u l).den : Int) := by
  have e1 := nd (u j)
  have e2 := nd (u l)
  have d1 := den0 (u j)
  have d2 := den0 (u l)
  have n2 : (u l).num ≠ 0 := fun z => u0 (num0.mp z)
  have p1 : ((u j).den : Int) ≠ 0 := by have := (u j).den_pos; omega
  have p2 : ((u l).den : Int) ≠ 0 := by have := (u l).den_pos; omega
  have e : (((u j).num * ((u l).den : Int) : Int) : Rat) = u j / u l * (((((u j).den : Int) * (u l).num) : Int) : Rat) := by
    rw [Rat.intCast_mul, Rat.intCast_mul, e1, e2]
    grind
  obtain ⟨q1, q2⟩ := den_dvd (Int.mul_ne_zero p1 n2) e
  refine ⟨?_, dvd_bt q1 (Int.mul_ne_zero p1 n2) (((hu.den k hj).mul (hu.n l hl)).up (by omega))⟩
  by_cases z : (u j).num = 0
  · have : u j / u l = 0 := by rw [num0.mp z]; grind
    rw [this]
    exact Nat.two_pow_pos _
  · exact dvd_bt q2 (Int.mul_ne_zero z p2) ((hu.n j hj).mul (hu.den k hl))
end VM

set_option Elab.async false
set_option maxRecDepth 100000
namespace VM
open RQ
/-- all but two of the products are 0 -/
theorem dot_two {u y : Nat → Rat} {a b : Nat} (ne : a ≠ b) : ∀ {w : Nat}, a < w → b < w → (∀ j, j < w → j ≠ a → j ≠ b → u j * y j = 0) → dot u y w = u a * y a + u b * y b
  | 0, h, _, _ => absurd h (by omega)
  | w + 1, h1, h2, z => by
    unfold dot
    by_cases ea : a = w
    · subst ea
      rw [dot_one (k := b) (by omega) fun j hj n => z j (by omega) (by omega) n]
      grind
    · by_cases eb : b = w
      · subst eb
        rw [dot_one (k := a) (by omega) fun j hj n => z j (by omega) n (by omega)]
      · rw [dot_two ne (w := w) (by omega) (by omega) fun j hj n1 n2 => z j (by omega) n1 n2, z w (by omega) (fun e => ea e.symm) (fun e => eb e.symm)]
        grind
/-- a column without a lead: what is 0 on all rows, 1 there, and else not 0 at leads of lower columns alone -/
theorem free_col {r w : Nat} {F : Nat → Nat → Rat} {L : Nat → Nat} (E : Rref r w F L) {q : Nat} (hq : q < w) (no : ∀ t, t < r → L t ≠ q) :
    ∃ y : Nat → Rat, y q = 1 ∧ (∀ j, q < j → y j = 0) ∧ (∀ t, t < r → y (L t) = - F t q) ∧ Ann r w F y := by
  have inj : ∀ s t, s < r → t < r → L s = L t → s = t := fun s t hs ht e => by
    rcases Nat.lt_trichotomy s t with h | h | h
    · have := E.up s t h ht; omega
    · exact h
    · have := E.up t s h hs; omega
  have ch : ∀ j, ∃ v : Rat, (j = q → v = 1) ∧ (∀ t, t < r → L t = j → v = - F t q) ∧ (j ≠ q → (∀ t, t < r → L t ≠ j) → v = 0) := fun j => by
    by_cases e : j = q
    · exact ⟨1, fun _ => rfl, fun t ht h => absurd (h.trans e) (no t ht), fun n => absurd e n⟩
    · by_cases h : ∃ t, t < r ∧ L t = j
      · obtain ⟨t, ht, et⟩ := h
        exact ⟨- F t q, fun z => absurd z e, fun s hs es => by rw [inj s t hs ht (by omega)], fun _ z => absurd et (z t ht)⟩
      · exact ⟨0, fun z => absurd z e, fun t ht et => absurd ⟨t, ht, et⟩ h, fun _ _ => rfl⟩
  obtain ⟨y, hy⟩ := Classical.axiomOfChoice ch
  have yL : ∀ t, t < r → y (L t) = - F t q := fun t ht => (hy (L t)).2.1 t ht rfl
  have yq : y q = 1 := (hy q).1 rfl
  refine ⟨y, yq, fun j hj => ?_, yL, fun s hs => ?_⟩
  · by_cases h : ∃ t, t < r ∧ L t = j
    · obtain ⟨t, ht, et⟩ := h
      rw [← et, yL t ht, E.zb t ht q (by omega)]
      grind
    · exact (hy j).2.2 (by omega) fun t ht et => h ⟨t, ht, et⟩
  · rw [dot_two (a := q) (b := L s) (fun e => no s hs e.symm) hq (E.lt s hs) fun j hj n1 n2 => ?_]
    · rw [yq, yL s hs, E.one s hs]
      grind
    · by_cases h : ∃ t, t < r ∧ L t = j
      · obtain ⟨t, ht, et⟩ := h
        have : s ≠ t := fun e => n2 (by rw [← et, e])
        rw [← et, E.off s t hs ht this]
        grind
      · rw [(hy j).2.2 n1 fun t ht et => h ⟨t, ht, et⟩]
        grind
/-- the rows beside one another, with what is wanted -/
def aug (r : Nat) (U : Nat → Nat → Rat) (b : Nat → Rat) (i j : Nat) : Rat := if j < r then U j i else b i
def Indep (r w : Nat) (U : Nat → Nat → Rat) : Prop := ∀ y : Nat → Rat, (∀ i, i < w → dot (fun k => U k i) y r = 0) → ∀ k, k < r → y k = 0
def Solves (r w : Nat) (U : Nat → Nat → Rat) (b x : Nat → Rat) : Prop := ∀ i, i < w → dot (fun k => U k i) x r = b i
theorem dot_aug {r i : Nat} {U : Nat → Nat → Rat} {b y : Nat → Rat} : dot (aug r U b i) y (r + 1) = dot (fun k => U k i) y r + b i * y r := by
  show dot (aug r U b i) y r + aug r U b i r * y r = _
  rw [dot_congr (u := aug r U b i) (u' := fun k => U k i) (y' := y) (fun j hj => by unfold aug; rw [if_pos hj]) fun _ _ => rfl]
  unfold aug
  rw [if_neg (Nat.lt_irrefl r)]
section
variable {c r w : Nat} {F U : Nat → Nat → Rat} {L : Nat → Nat} {b : Nat → Rat}
theorem lead_all (E : Rref c (r + 1) F L) (an : ∀ y, Ann c (r + 1) F y ↔ Ann w (r + 1) (aug r U b) y) (ind : Indep r w U) {q : Nat} (hq : q < r) : ∃ t, t < c ∧ L t = q := by
  refine Classical.byContradiction fun no => ?_
  obtain ⟨y, y1, y2, _, y4⟩ := free_col E (q := q) (by omega) fun t ht e => no ⟨t, ht, e⟩
  have := ind y (fun i hi => by
    have h := (an y).mp y4 i hi
    rw [dot_aug, y2 r hq] at h
    grind) q hq
  rw [y1] at this
  exact absurd this (by decide)
theorem lead_id (E : Rref c (r + 1) F L) (all : ∀ q, q < r → ∃ t, t < c ∧ L t = q) : ∀ t, t < r → t < c ∧ L t = t := by
  have ge : ∀ t, t < c → t ≤ L t := fun t => by
    induction t with
    | zero => intro _; exact Nat.zero_le _
    | succ t ih =>
      intro h
      have := ih (by omega)
      have := E.up t (t + 1) (by omega) h
      omega
  intro t
  induction t using Nat.strongRecOn with
  | ind t ih =>
    intro ht
    obtain ⟨s, hs, e⟩ := all t ht
    have h1 := ge s hs
    by_cases lt : s < t
    · have := (ih s lt (by omega)).2
      omega
    · have : s = t := by omega
      subst this
      exact ⟨hs, e⟩
/-- the rows of what reduced gives: 1 at their place, 0 at the others ahead of the last -/
theorem solve_row (E : Rref c (r + 1) F L) (id : ∀ t, t < r → t < c ∧ L t = t) {s : Nat} (hs : s < r) (x : Nat → Rat) : dot (F s) (fun j => if j < r then x j else -1) (r + 1) = x s - F s r := by
  have hsc := (id s hs).1
  have e1 : F s s = 1 := by
    have := E.one s hsc
    rw [(id s hs).2] at this
    exact this
  rw [dot_two (a := s) (b := r) (by omega) (by omega) (by omega) fun j hj n1 n2 => ?_]
  · simp only [if_pos hs, if_neg (Nat.lt_irrefl r), e1]
    grind
  · have hj2 : j < r := by omega
    have := E.off s j hsc (id j hj2).1 (fun e => n1 e.symm)
    rw [(id j hj2).2] at this
    rw [this]
    grind
theorem solve_yes (E : Rref c (r + 1) F L) (an : ∀ y, Ann c (r + 1) F y ↔ Ann w (r + 1) (aug r U b) y) (ind : Indep r w U) {x : Nat → Rat} (hx : Solves r w U b x) : c = r ∧ ∀ t, t < r → F t r = x t := by
  have id := lead_id E fun q hq => lead_all E an ind hq
  have A : Ann c (r + 1) F (fun j => if j < r then x j else -1) := (an _).mpr fun i hi => by
    rw [dot_aug, dot_congr (u' := fun k => U k i) (y' := x) (fun _ _ => rfl) (fun j hj => if_pos hj), hx i hi, if_neg (Nat.lt_irrefl r)]
    grind
  have ge : r ≤ c := by
    by_cases z : r = 0
    · omega
    · have := (id (r - 1) (by omega)).1
      omega
  refine ⟨?_, fun t ht => ?_⟩
  · refine Nat.le_antisymm (Nat.le_of_not_lt fun lt => ?_) ge
    have hl : L r = r := by
      have h1 := E.lt r lt
      by_cases z : r = 0
      · omega
      · have h2 := E.up (r - 1) r (by omega) lt
        rw [(id (r - 1) (by omega)).2] at h2
        omega
    have h := A r lt
    rw [dot_one (k := r) (by omega) fun j hj n => ?_] at h
    · have e1 := E.one r lt
      rw [hl] at e1
      simp only [if_neg (Nat.lt_irrefl r), e1] at h
      grind
    · rw [E.zb r lt j (by omega)]
      grind
  · have h := A t (id t ht).1
    rw [solve_row E id ht] at h
    grind
theorem solve_no (E : Rref c (r + 1) F L) (an : ∀ y, Ann c (r + 1) F y ↔ Ann w (r + 1) (aug r U b) y) (ind : Indep r w U) (no : ∀ x, ¬ Solves r w U b x) : r < c := by
  have id := lead_id E fun q hq => lead_all E an ind hq
  have ge : r ≤ c := by
    by_cases z : r = 0
    · omega
    · have := (id (r - 1) (by omega)).1
      omega
  refine Nat.lt_of_le_of_ne ge fun e => no (fun t => F t r) fun i hi => ?_
  subst e
  have A : Ann r (r + 1) F (fun j => if j < r then F j r else -1) := fun s hs => by
    rw [solve_row (x := fun j => F j r) E id hs]
    grind
  have h := (an _).mp A i hi
  rw [dot_aug, dot_congr (u' := fun k => U k i) (y' := fun t => F t r) (fun _ _ => rfl) (fun j hj => if_pos hj), if_neg (Nat.lt_irrefl r)] at h
  grind
end
end VM

set_option Elab.async false
set_option maxRecDepth 100000
namespace VM
open RQ
/-- a number over M, its top of at most T bits -/
def Ov (M : Int) (T : Nat) (q : Rat) : Prop := ∃ z : Int, (z : Rat) = q * (M : Rat) ∧ Bt T z
theorem Ov.up {M : Int} {S T : Nat} {q : Rat} (h : Ov M S q) (l : S ≤ T) : Ov M T q := let ⟨z, e, b⟩ := h; ⟨z, e, b.up l⟩
theorem bt0 (T : Nat) : Bt T 0 := Nat.two_pow_pos _
theorem Ov.den {M : Int} {T : Nat} {q : Rat} (h : Ov M T q) (m : M ≠ 0) : (q.den : Int) ∣ M ∧ Bt T q.num := by
  obtain ⟨z, e, b⟩ := h
  obtain ⟨d1, d2⟩ := den_dvd m e
  refine ⟨d1, ?_⟩
  by_cases z0 : z = 0
  · have q0 : q = 0 := by
      have m0 := i0 m
      rw [z0] at e
      have e0 : ((0 : Int) : Rat) = 0 := rfl
      rw [e0] at e
      grind
    rw [q0]
    exact bt0 T
  · exact dvd_bt d2 z0 b
theorem Ov.add {M : Int} {T : Nat} {p q : Rat} (h : Ov M T p) (k : Ov M T q) : Ov M (T + 1) (p + q) := by
  obtain ⟨z, e, b⟩ := h
  obtain ⟨y, f, c⟩ := k
  exact ⟨z + y, by rw [Rat.intCast_add, e, f]; grind, b.add c⟩
theorem Ov.mul {M N : Int} {S T : Nat} {p q : Rat} (h : Ov M S p) (k : Ov N T q) : Ov (M * N) (S + T) (p * q) := by
  obtain ⟨z, e, b⟩ := h
  obtain ⟨y, f, c⟩ := k
  exact ⟨z * y, by rw [Rat.intCast_mul, Rat.intCast_mul, e, f]; grind, b.mul c⟩
theorem Ov.lift {M N : Int} {S T : Nat} {p : Rat} (h : Ov M S p) (b : Bt T N) : Ov (M * N) (S + T) p := by
  obtain ⟨z, e, c⟩ := h
  exact ⟨z * N, by rw [Rat.intCast_mul, Rat.intCast_mul, e]; grind, c.mul b⟩
theorem Ov.zero (M : Int) (T : Nat) : Ov M T 0 := ⟨0, by rw [Rat.zero_mul]; rfl, bt0 T⟩
theorem Ov.one {M : Int} {T : Nat} (b : Bt T M) : Ov M T 1 := ⟨M, by grind, b⟩
theorem Ov.self {T : Nat} {q : Rat} (b : Bt T q.num) : Ov (q.den : Int) T q := ⟨q.num, nd q, b⟩
theorem Ov.comm {M N : Int} {T : Nat} {q : Rat} (h : Ov (M * N) T q) : Ov (N * M) T q := by rw [Int.mul_comm]; exact h
theorem den_ne (q : Rat) : (q.den : Int) ≠ 0 := by have := q.den_pos; omega
theorem Ov.vb {M : Int} {T w : Nat} {u : Nat → Rat} (m : M ≠ 0) (h : ∀ j, j < w → Ov M T (u j)) : VB (fun _ => M) T w u := ⟨fun j hj => ((h j hj).den m).1, fun j hj => ((h j hj).den m).2⟩
/-- numbers times rows, added up -/
theorem Ov.dot {M : Int} {T : Nat} {u y : Nat → Rat} : ∀ {w : Nat}, (∀ j, j < w → Ov M T (u j * y j)) → Ov M (T + w) (dot u y w)
  | 0, _ => Ov.zero M _
  | w + 1, h => by
    have i := Ov.dot (w := w) fun j hj => h j (by omega)
    exact i.add ((h w (by omega)).up (by omega))
/-! ### sums of rows -/
theorem dot_add {u y z : Nat → Rat} : ∀ {w : Nat}, dot u (fun k => y k + z k) w = dot u y w + dot u z w
  | 0 => by unfold dot; grind
  | w + 1 => by
    unfold dot
    rw [dot_add]
    grind
theorem dot_mul {u y : Nat → Rat} {c : Rat} : ∀ {w : Nat}, dot u (fun k => c * y k) w = c * dot u y w
  | 0 => by unfold dot; grind
  | w + 1 => by
    unfold dot
    rw [dot_mul]
    grind
theorem dot_comm {u y : Nat → Rat} : ∀ {w : Nat}, dot u y w = dot y u w
  | 0 => rfl
  | w + 1 => by
    unfold dot
    rw [dot_comm]
    grind
/-- a sum of sums, the other way about -/
theorem dot_swap {x y : Nat → Rat} {B : Nat → Nat → Rat} {p : Nat} : ∀ {r : Nat}, dot x (fun k => dot (B k) y p) r = dot (fun t => dot x (fun k => B k t) r) y p
  | 0 => by
    rw [show dot x (fun k => dot (B k) y p) 0 = 0 from rfl]
    exact (dot_zero fun j _ => by show dot x (fun k => B k j) 0 * y j = 0; rw [show dot x (fun k => B k j) 0 = 0 from rfl]; grind).symm
  | r + 1 => by
    show dot x (fun k => dot (B k) y p) r + x r * dot (B r) y p = _
    rw [dot_swap]
    have e : dot (fun t => dot x (fun k => B k t) (r + 1)) y p = dot (fun t => 1 * (dot x (fun k => B k t) r - (- x r) * B r t)) y p := dot_congr (fun j _ => by show dot x (fun k => B k j) r + x r * B r j = _; grind) fun _ _ => rfl
    rw [e, dot_lin]
    grind
/-- v is the sum of the basis by its numbers at the leads -/
def InSp (p w : Nat) (L : Nat → Nat) (B : Nat → Nat → Rat) (v : Nat → Rat) : Prop := ∀ i, i < w → v i = dot (fun t => v (L t)) (fun t => B t i) p
theorem insp_dot {p w n : Nat} {L : Nat → Nat} {B V : Nat → Nat → Rat} {x : Nat → Rat} (hL : ∀ t, t < p → L t < w) (h : ∀ k, k < n → InSp p w L B (V k)) : InSp p w L B (fun i => dot x (fun k => V k i) n) := fun i hi => by
  show dot x (fun k => V k i) n = dot (fun t => dot x (fun k => V k (L t)) n) (fun t => B t i) p
  rw [← dot_swap (B := fun k t => V k (L t))]
  exact dot_congr (fun _ _ => rfl) fun k hk => by
    exact h k hk i hi
theorem insp_basis {p w : Nat} {L : Nat → Nat} {B : Nat → Nat → Rat} (E : Rref p w B L) {k : Nat} (hk : k < p) : InSp p w L B (B k) := fun i hi => by
  rw [dot_one (k := k) hk fun j hj n => by rw [E.off k j hk hj (fun e => n e.symm)]; grind]
  rw [E.one k hk]
  grind
/-- rows of a triangle over the leads are independent, in any order -/
theorem indep_tri {p w : Nat} {L σ : Nat → Nat} {V : Nat → Nat → Rat} (hL : ∀ t, t < p → L t < w) (up : ∀ k j, k < p → j < p → k < j → V k (L j) = 0) (di : ∀ k, k < p → V k (L k) ≠ 0)
    (s1 : ∀ k, k < p → σ k < p) (s2 : ∀ k j, k < p → j < p → σ k = σ j → k = j) : Indep p w (fun k => V (σ k)) := by
  intro y h
  have key : ∀ d m, d + m = p → ∀ k, k < p → m ≤ σ k → y k = 0 := by
    intro d
    induction d with
    | zero => intro m e k hk l; have := s1 k hk; omega
    | succ d ih =>
      intro m e k hk l
      by_cases lt : m + 1 ≤ σ k
      · exact ih (m + 1) (by omega) k hk lt
      · have em : σ k = m := by omega
        have z := h (L m) (hL m (by omega))
        rw [dot_one (k := k) hk fun j hj n => ?_] at z
        · have := di m (by omega)
          have z : V (σ k) (L m) * y k = 0 := z
          rw [em] at z
          grind
        · show V (σ j) (L m) * y j = 0
          rcases Nat.lt_trichotomy (σ j) m with q | q | q
          · rw [up (σ j) m (s1 j hj) (by omega) q]
            grind
          · exact absurd (s2 j k hj hk (by omega)) n
          · rw [ih (m + 1) (by omega) j hj (by omega)]
            grind
  intro k hk
  exact key p 0 (by omega) k hk (Nat.zero_le _)
end VM

set_option Elab.async false
set_option maxRecDepth 100000
/-! machines in plain Lean: rows, columns, tables and numbers of words; sums over two blocks, over pairs of places -/
namespace VN
open RQ VM
section
variable (n : Nat) (M : Nat → Nat → Nat → Rat)
/-- the row r, then the steps of the letters -/
def row : (Nat → Rat) → List Nat → Nat → Rat
  | r, [] => r
  | r, x :: w => row (fun j => dot r (fun i => M x i j) n) w
/-- the steps of the letters, then the column c -/
def col (c : Nat → Rat) : List Nat → Nat → Rat
  | [] => c
  | x :: w => fun i => dot (M x i) (col c w) n
def unit : Nat → Nat → Rat := fun i j => if i = j then 1 else 0
/-- the product of the steps of the letters, from the first one on -/
def tab (w : List Nat) : Nat → Nat → Rat := fun i => row n M (unit i) w
end
variable {n : Nat} {M : Nat → Nat → Nat → Rat}
theorem row_append : ∀ {u v : List Nat} {r : Nat → Rat}, row n M r (u ++ v) = row n M (row n M r u) v
  | [], _, _ => rfl
  | x :: u, v, r => row_append (u := u)
theorem col_append {c : Nat → Rat} : ∀ {u v : List Nat}, col n M c (u ++ v) = col n M (col n M c v) u
  | [], _ => rfl
  | x :: u, v => by
    show (fun i => dot (M x i) (col n M c (u ++ v)) n) = fun i => dot (M x i) (col n M (col n M c v) u) n
    rw [col_append]
theorem row_congr : ∀ {w : List Nat} {r r' : Nat → Rat}, (∀ j, j < n → r j = r' j) → ∀ j, j < n → row n M r w j = row n M r' w j
  | [], _, _, h => h
  | x :: w, r, r', h => row_congr (w := w) fun j hj => dot_congr h fun _ _ => rfl
theorem col_congr : ∀ {w : List Nat} {c c' : Nat → Rat}, (∀ j, j < n → c j = c' j) → ∀ j, j < n → col n M c w j = col n M c' w j
  | [], _, _, h => h
  | x :: w, c, c', h => fun j hj => dot_congr (fun _ _ => rfl) fun k hk => col_congr (w := w) h k hk
/-- the number from the left and from the right -/
theorem meet {c : Nat → Rat} : ∀ {w : List Nat} {r : Nat → Rat}, dot (row n M r w) c n = dot r (col n M c w) n
  | [], _ => rfl
  | x :: w, r => by
    show dot (row n M (fun j => dot r (fun i => M x i j) n) w) c n = dot r (fun i => dot (M x i) (col n M c w) n) n
    rw [meet (w := w), dot_swap]
/-- the number of u followed by v is the row of u with the column of v -/
theorem meet_append {r c : Nat → Rat} {u v : List Nat} : dot (row n M r (u ++ v)) c n = dot (row n M r u) (col n M c v) n := by
  rw [row_append]
  exact meet
theorem unit_dot {y : Nat → Rat} {i : Nat} (h : i < n) : dot (unit i) y n = y i := by
  rw [dot_one (k := i) h fun j _ ne => by unfold unit; rw [if_neg (Ne.symm ne), Rat.zero_mul]]
  unfold unit
  rw [if_pos rfl, Rat.one_mul]
theorem dot_unit {y : Nat → Rat} {j : Nat} (h : j < n) : dot y (fun i => unit i j) n = y j := by
  rw [dot_one (k := j) h fun i _ ne => by unfold unit; rw [if_neg ne, Rat.mul_zero]]
  unfold unit
  rw [if_pos rfl, Rat.mul_one]
/-- a row of the table -/
theorem row_tab {j : Nat} (hj : j < n) : ∀ {w : List Nat} {r : Nat → Rat}, row n M r w j = dot r (fun i => tab n M w i j) n := by
  intro w
  have at_end : ∀ (r : Nat → Rat), row n M r w j = dot (row n M r w) (fun i => unit i j) n := fun r => (dot_unit hj).symm
  intro r
  rw [at_end r, meet]
  refine dot_congr (fun _ _ => rfl) fun i hi => ?_
  show col n M (fun i => unit i j) w i = row n M (unit i) w j
  rw [at_end (unit i), meet, unit_dot hi]
theorem col_tab {c : Nat → Rat} {w : List Nat} {i : Nat} (hi : i < n) : col n M c w i = dot (tab n M w i) c n := by
  show _ = dot (row n M (unit i) w) c n
  rw [meet, unit_dot hi]
theorem tab_append {u v : List Nat} {i j : Nat} (hj : j < n) : tab n M (u ++ v) i j = dot (tab n M u i) (fun k => tab n M v k j) n := by
  show row n M (unit i) (u ++ v) j = _
  rw [row_append]
  exact row_tab hj
/-! ### sums in two blocks, over pairs -/
theorem dot_two {u y : Nat → Rat} {a : Nat} : ∀ {b : Nat}, dot u y (a + b) = dot u y a + dot (fun i => u (a + i)) (fun i => y (a + i)) b
  | 0 => by
    show dot u y a = dot u y a + 0
    grind
  | b + 1 => by
    show dot u y (a + b) + u (a + b) * y (a + b) = dot u y a + (dot (fun i => u (a + i)) (fun i => y (a + i)) b + u (a + b) * y (a + b))
    rw [dot_two (b := b)]
    grind
theorem dot_scale {u y : Nat → Rat} {c : Rat} : ∀ {w : Nat}, dot (fun k => c * u k) y w = c * dot u y w
  | 0 => by unfold dot; grind
  | w + 1 => by
    unfold dot
    rw [dot_scale]
    grind
/-- the first index counts in steps of b -/
theorem dot_pairs {u y v z : Nat → Rat} {b : Nat} (hb : 0 < b) : ∀ {a : Nat}, dot (fun t => u (t / b) * v (t % b)) (fun t => y (t / b) * z (t % b)) (a * b) = dot u y a * dot v z b
  | 0 => by
    rw [Nat.zero_mul]
    unfold dot
    grind
  | a + 1 => by
    rw [Nat.succ_mul, dot_two, dot_pairs hb (a := a)]
    have e : dot (fun i => u ((a * b + i) / b) * v ((a * b + i) % b)) (fun i => y ((a * b + i) / b) * z ((a * b + i) % b)) b = u a * y a * dot v z b := by
      have d : ∀ i, i < b → (a * b + i) / b = a ∧ (a * b + i) % b = i := fun i hi => by
        rw [Nat.mul_comm]
        refine ⟨?_, ?_⟩
        · rw [Nat.mul_add_div hb, Nat.div_eq_of_lt hi, Nat.add_zero]
        · rw [Nat.mul_add_mod, Nat.mod_eq_of_lt hi]
      have e1 : dot (fun i => u ((a * b + i) / b) * v ((a * b + i) % b)) (fun i => y ((a * b + i) / b) * z ((a * b + i) % b)) b = dot (fun i => u a * v i) (fun i => y a * z i) b :=
        dot_congr (fun i hi => by rw [(d i hi).1, (d i hi).2]) fun i hi => by rw [(d i hi).1, (d i hi).2]
      rw [e1, dot_scale, dot_mul]
      grind
    rw [e]
    show _ = (dot u y a + u a * y a) * dot v z b
    grind
/-! ### machines in two blocks -/
theorem row_add : ∀ {w : List Nat} {r s : Nat → Rat}, row n M (fun j => r j + s j) w = fun j => row n M r w j + row n M s w j
  | [], _, _ => rfl
  | x :: w, r, s => by
    show row n M (fun j => dot (fun i => r i + s i) (fun i => M x i j) n) w = fun j => row n M (fun j => dot r (fun i => M x i j) n) w j + row n M (fun j => dot s (fun i => M x i j) n) w j
    rw [← row_add (w := w)]
    congr 1
    funext j
    rw [dot_comm, dot_add, dot_comm, dot_comm (u := fun i => M x i j) (y := s)]
theorem row_scale {c : Rat} : ∀ {w : List Nat} {r : Nat → Rat}, row n M (fun j => c * r j) w = fun j => c * row n M r w j
  | [], _ => rfl
  | x :: w, r => by
    show row n M (fun j => dot (fun i => c * r i) (fun i => M x i j) n) w = fun j => c * row n M (fun j => dot r (fun i => M x i j) n) w j
    rw [← row_scale (w := w)]
    congr 1
    funext j
    exact dot_scale
theorem col_add : ∀ {w : List Nat} {c d : Nat → Rat}, col n M (fun j => c j + d j) w = fun j => col n M c w j + col n M d w j
  | [], _, _ => rfl
  | x :: w, c, d => by
    show (fun i => dot (M x i) (col n M (fun j => c j + d j) w) n) = fun i => dot (M x i) (col n M c w) n + dot (M x i) (col n M d w) n
    rw [col_add (w := w)]
    funext i
    exact dot_add
theorem col_scale {c : Rat} : ∀ {w : List Nat} {d : Nat → Rat}, col n M (fun j => c * d j) w = fun j => c * col n M d w j
  | [], _ => rfl
  | x :: w, d => by
    show (fun i => dot (M x i) (col n M (fun j => c * d j) w) n) = fun i => c * dot (M x i) (col n M d w) n
    rw [col_scale (w := w)]
    funext i
    exact dot_mul
/-- the step C has A above on the left, B below on the right, U above on the right, and 0 below on the left -/
structure Tri (a b : Nat) (A B U C : Nat → Nat → Nat → Rat) : Prop where
  ul : ∀ x i j, i < a → j < a → C x i j = A x i j
  ur : ∀ x i j, i < a → j < b → C x i (a + j) = U x i j
  ll : ∀ x i j, i < b → j < a → C x (a + i) j = 0
  lr : ∀ x i j, i < b → j < b → C x (a + i) (a + j) = B x i j
section
variable {a b : Nat} {A B U C : Nat → Nat → Nat → Rat}
theorem Tri.left (t : Tri a b A B U C) : ∀ {w : List Nat} {r : Nat → Rat} {j : Nat}, j < a → row (a + b) C r w j = row a A r w j
  | [], _, _, _ => rfl
  | x :: w, r, j, hj => by
    show row (a + b) C (fun j => dot r (fun i => C x i j) (a + b)) w j = row a A (fun j => dot r (fun i => A x i j) a) w j
    rw [t.left (w := w) hj]
    refine row_congr (fun l hl => ?_) j hj
    show dot r (fun i => C x i l) (a + b) = dot r (fun i => A x i l) a
    rw [dot_two, dot_congr (w := a) (fun _ _ => rfl) (fun i hi => t.ul x i l hi hl), dot_zero (w := b) fun i hi => by rw [t.ll x i l hi hl, Rat.mul_zero]]
    grind
theorem Tri.low (t : Tri a b A B U C) {c : Nat → Rat} : ∀ {w : List Nat} {i : Nat}, i < b → col (a + b) C c w (a + i) = col b B (fun i => c (a + i)) w i
  | [], _, _ => rfl
  | x :: w, i, hi => by
    show dot (C x (a + i)) (col (a + b) C c w) (a + b) = dot (B x i) (col b B (fun i => c (a + i)) w) b
    rw [dot_two, dot_zero (w := a) fun j hj => by rw [t.ll x i j hi hj, Rat.zero_mul]]
    rw [dot_congr (w := b) (fun j hj => t.lr x i j hi hj) fun j hj => t.low (w := w) hj]
    grind
/-- all ways to part a word at a letter -/
def cuts : List Nat → List (List Nat × Nat × List Nat)
  | [] => []
  | x :: w => ([], x, w) :: (cuts w).map fun q => (x :: q.1, q.2)
def total {α : Type} (f : α → Rat) : List α → Rat
  | [] => 0
  | q :: l => f q + total f l
theorem total_map {α β : Type} {f : β → Rat} {g : α → β} : ∀ {l : List α}, total f (l.map g) = total (fun q => f (g q)) l
  | [] => rfl
  | q :: l => by
    show f (g q) + total f (l.map g) = f (g q) + total (fun q => f (g q)) l
    rw [total_map]
theorem total_congr {α : Type} {f g : α → Rat} : ∀ {l : List α}, (∀ q, q ∈ l → f q = g q) → total f l = total g l
  | [], _ => rfl
  | q :: l, h => by
    show f q + total f l = g q + total g l
    rw [h q List.mem_cons_self, total_congr fun p hp => h p (List.mem_cons_of_mem _ hp)]
/-- the right block of a row: what stood there goes on, and at each letter something comes over -/
theorem Tri.right (t : Tri a b A B U C) : ∀ {w : List Nat} {r : Nat → Rat} {j : Nat}, j < b → row (a + b) C r w (a + j) = row b B (fun i => r (a + i)) w j + total (fun q => row b B (fun l => dot (row a A r q.1) (fun i => U q.2.1 i l) a) q.2.2 j) (cuts w)
  | [], r, j, _ => by
    show r (a + j) = r (a + j) + 0
    grind
  | x :: w, r, j, hj => by
    show row (a + b) C (fun j => dot r (fun i => C x i j) (a + b)) w (a + j) = _
    rw [t.right (w := w) hj]
    have e1 : ∀ l, l < b → dot r (fun i => C x i (a + l)) (a + b) = dot r (fun i => U x i l) a + dot (fun i => r (a + i)) (fun i => B x i l) b := fun l hl => by
      rw [dot_two, dot_congr (w := a) (fun _ _ => rfl) (fun i hi => t.ur x i l hi hl), dot_congr (w := b) (fun _ _ => rfl) (fun i hi => t.lr x i l hi hl)]
    have e2 : row b B (fun l => dot r (fun i => C x i (a + l)) (a + b)) w j = row b B (fun l => dot r (fun i => U x i l) a) w j + row b B (fun l => dot (fun i => r (a + i)) (fun i => B x i l) b) w j := by
      rw [row_congr e1 j hj, row_add]
    have e3 : total (fun q => row b B (fun l => dot (row a A (fun j => dot r (fun i => C x i j) (a + b)) q.1) (fun i => U q.2.1 i l) a) q.2.2 j) (cuts w) = total (fun q => row b B (fun l => dot (row a A r (x :: q.1)) (fun i => U q.2.1 i l) a) q.2.2 j) (cuts w) :=
      total_congr fun q _ => row_congr (fun l hl => dot_congr (fun i hi => by
        show row a A (fun j => dot r (fun i => C x i j) (a + b)) q.1 i = row a A (fun j => dot r (fun i => A x i j) a) q.1 i
        refine row_congr (fun m hm => ?_) i hi
        show dot r (fun i => C x i m) (a + b) = dot r (fun i => A x i m) a
        rw [dot_two, dot_congr (w := a) (fun _ _ => rfl) (fun i hi => t.ul x i m hi hm), dot_zero (w := b) fun i hi => by rw [t.ll x i m hi hm, Rat.mul_zero]]
        grind) fun _ _ => rfl) j hj
    rw [e2, e3]
    show _ = row b B (fun l => dot (fun i => r (a + i)) (fun i => B x i l) b) w j + (row b B (fun l => dot r (fun i => U x i l) a) w j + total (fun q => row b B (fun l => dot (row a A r q.1) (fun i => U q.2.1 i l) a) q.2.2 j) ((cuts w).map fun q => (x :: q.1, q.2)))
    rw [total_map]
    grind
end
end VN

set_option Elab.async false
set_option maxRecDepth 100000
/-! machines in plain Lean: pairs of states, all choices of places, words backwards, words for letters, all words of a length -/
namespace VN
open RQ VM
variable {n a b : Nat} {M A B C : Nat → Nat → Nat → Rat}
theorem total_append {α : Type} {f : α → Rat} : ∀ {l m : List α}, total f (l ++ m) = total f l + total f m
  | [], m => by
    show total f m = 0 + total f m
    grind
  | q :: l, m => by
    show f q + total f (l ++ m) = f q + total f l + total f m
    rw [total_append]
    grind
/-- the row with r (t / b) times s (t mod b) at t -/
def pair (b : Nat) (r s : Nat → Rat) : Nat → Rat := fun t => r (t / b) * s (t % b)
theorem pair_at {r s : Nat → Rat} {i j : Nat} (h : j < b) : pair b r s (i * b + j) = r i * s j := by
  unfold pair
  rw [Nat.mul_comm, Nat.mul_add_div (by omega), Nat.div_eq_of_lt h, Nat.add_zero, Nat.mul_add_mod, Nat.mod_eq_of_lt h]
theorem div_lt {t : Nat} (h : t < a * b) : t / b < a := Nat.div_lt_of_lt_mul (by rw [Nat.mul_comm]; exact h)
theorem mod_lt {t : Nat} (h : t < a * b) : t % b < b := Nat.mod_lt _ (by
  rcases Nat.eq_zero_or_pos b with z | z
  · rw [z, Nat.mul_zero] at h
    omega
  · exact z)
theorem pos_of {t : Nat} (h : t < a * b) : 0 < b := by
  have := mod_lt h
  omega
/-- the product of two machines -/
theorem both (h : ∀ x s t, s < a * b → t < a * b → C x s t = A x (s / b) (t / b) * B x (s % b) (t % b)) : ∀ {w : List Nat} {r s : Nat → Rat} {t : Nat}, t < a * b → row (a * b) C (pair b r s) w t = row a A r w (t / b) * row b B s w (t % b)
  | [], _, _, _, _ => rfl
  | x :: w, r, s, t, ht => by
    show row (a * b) C (fun j => dot (pair b r s) (fun i => C x i j) (a * b)) w t = row a A (fun j => dot r (fun i => A x i j) a) w (t / b) * row b B (fun j => dot s (fun i => B x i j) b) w (t % b)
    rw [← both h (w := w) ht]
    refine row_congr (fun j hj => ?_) t ht
    show dot (pair b r s) (fun i => C x i j) (a * b) = dot r (fun i => A x i (j / b)) a * dot s (fun i => B x i (j % b)) b
    rw [← dot_pairs (pos_of ht)]
    exact dot_congr (fun _ _ => rfl) fun i hi => h x i j hi hj
/-- all ways to deal the letters of a word out to two words -/
def deals : List Nat → List (List Nat × List Nat)
  | [] => [([], [])]
  | x :: w => ((deals w).map fun q => (x :: q.1, q.2)) ++ (deals w).map fun q => (q.1, x :: q.2)
/-- a letter goes to the one machine or to the other -/
theorem dealt (h : ∀ x s t, s < a * b → t < a * b → C x s t = A x (s / b) (t / b) * unit (s % b) (t % b) + unit (s / b) (t / b) * B x (s % b) (t % b)) :
    ∀ {w : List Nat} {r s : Nat → Rat} {t : Nat}, t < a * b → row (a * b) C (pair b r s) w t = total (fun q => row a A r q.1 (t / b) * row b B s q.2 (t % b)) (deals w)
  | [], r, s, t, _ => by
    show r (t / b) * s (t % b) = r (t / b) * s (t % b) + 0
    grind
  | x :: w, r, s, t, ht => by
    show row (a * b) C (fun j => dot (pair b r s) (fun i => C x i j) (a * b)) w t = total (fun q => row a A r q.1 (t / b) * row b B s q.2 (t % b)) (((deals w).map fun q => (x :: q.1, q.2)) ++ (deals w).map fun q => (q.1, x :: q.2))
    rw [total_append, total_map, total_map]
    show _ = total (fun q => row a A (fun j => dot r (fun i => A x i j) a) q.1 (t / b) * row b B s q.2 (t % b)) (deals w) + total (fun q => row a A r q.1 (t / b) * row b B (fun j => dot s (fun i => B x i j) b) q.2 (t % b)) (deals w)
    rw [← dealt h (w := w) ht, ← dealt h (w := w) ht]
    have e : ∀ j, j < a * b → dot (pair b r s) (fun i => C x i j) (a * b) = pair b (fun j => dot r (fun i => A x i j) a) s j + pair b r (fun j => dot s (fun i => B x i j) b) j := fun j hj => by
      rw [dot_congr (w := a * b) (fun _ _ => rfl) fun i hi => h x i j hi hj, dot_add]
      have e1 : dot (pair b r s) (fun i => A x (i / b) (j / b) * unit (i % b) (j % b)) (a * b) = dot r (fun i => A x i (j / b)) a * dot s (fun i => unit i (j % b)) b := dot_pairs (u := r) (y := fun i => A x i (j / b)) (v := s) (z := fun i => unit i (j % b)) (a := a) (pos_of ht)
      have e2 : dot (pair b r s) (fun i => unit (i / b) (j / b) * B x (i % b) (j % b)) (a * b) = dot r (fun i => unit i (j / b)) a * dot s (fun i => B x i (j % b)) b := dot_pairs (u := r) (y := fun i => unit i (j / b)) (v := s) (z := fun i => B x i (j % b)) (a := a) (pos_of ht)
      rw [e1, e2, dot_unit (mod_lt hj), dot_unit (div_lt hj)]
      rfl
    rw [row_congr e t ht, row_add]
/-- the steps turned about: words backwards -/
theorem turned : ∀ {w : List Nat} {r : Nat → Rat}, row n (fun x i j => M x j i) r w = col n M r w.reverse
  | [], _ => rfl
  | x :: w, r => by
    show row n (fun x i j => M x j i) (fun j => dot r (fun i => M x j i) n) w = _
    rw [turned (w := w), List.reverse_cons, col_append]
    congr 1
    funext j
    exact dot_comm
/-- words for letters -/
theorem putted {f : Nat → List Nat} (h : ∀ x i j, i < n → j < n → C x i j = tab n M (f x) i j) : ∀ {w : List Nat} {r : Nat → Rat} {j : Nat}, j < n → row n C r w j = row n M r (w.flatMap f) j
  | [], _, _, _ => rfl
  | x :: w, r, j, hj => by
    show row n C (fun j => dot r (fun i => C x i j) n) w j = _
    rw [List.flatMap_cons, row_append, putted h (w := w) hj]
    refine row_congr (fun l hl => ?_) j hj
    show dot r (fun i => C x i l) n = row n M r (f x) l
    rw [row_tab hl]
    exact dot_congr (fun _ _ => rfl) fun i hi => h x i l hi hl
/-- all words of m letters of an alphabet of k -/
def words (k : Nat) : Nat → List (List Nat)
  | 0 => [[]]
  | m + 1 => (List.range k).flatMap fun x => (words k m).map (x :: ·)
theorem total_flat {α β : Type} {f : β → Rat} {g : α → List β} : ∀ {l : List α}, total f (l.flatMap g) = total (fun x => total f (g x)) l
  | [] => rfl
  | q :: l => by
    rw [List.flatMap_cons, total_append, total_flat]
    rfl
theorem row_total {α : Type} {r : α → Nat → Rat} {w : List Nat} : ∀ {l : List α} {j : Nat}, j < n → row n M (fun j => total (fun x => r x j) l) w j = total (fun x => row n M (r x) w j) l
  | [], j, hj => by
    have z : ∀ {w : List Nat}, row n M (fun _ => 0) w = fun _ => 0 := by
      intro w
      have := row_scale (n := n) (M := M) (c := 0) (w := w) (r := fun _ => 0)
      simp only [Rat.zero_mul] at this
      exact this
    show row n M (fun _ => 0) w j = 0
    rw [z]
  | q :: l, j, hj => by
    show row n M (fun j => r q j + total (fun x => r x j) l) w j = row n M (r q) w j + total (fun x => row n M (r x) w j) l
    rw [row_add]
    show row n M (r q) w j + row n M (fun j => total (fun x => r x j) l) w j = _
    rw [row_total (l := l) hj]
theorem dot_total {α : Type} {y : α → Nat → Rat} {r : Nat → Rat} : ∀ {l : List α}, dot r (fun i => total (fun x => y x i) l) n = total (fun x => dot r (y x) n) l
  | [] => dot_zero fun _ _ => Rat.mul_zero _
  | q :: l => by
    show dot r (fun i => y q i + total (fun x => y x i) l) n = dot r (y q) n + total (fun x => dot r (y x) n) l
    rw [dot_add, dot_total]
/-- one letter, whose step is the sum of the steps: all words of a length at once -/
theorem summed {k z : Nat} (h : ∀ i j, i < n → j < n → C z i j = total (fun x => M x i j) (List.range k)) : ∀ {m : Nat} {r : Nat → Rat} {j : Nat}, j < n → row n C r (List.replicate m z) j = total (fun w => row n M r w j) (words k m)
  | 0, r, j, _ => by
    show r j = r j + 0
    grind
  | m + 1, r, j, hj => by
    rw [List.replicate_succ]
    show row n C (fun j => dot r (fun i => C z i j) n) (List.replicate m z) j = total (fun w => row n M r w j) ((List.range k).flatMap fun x => (words k m).map (x :: ·))
    rw [total_flat]
    have e : ∀ l, l < n → dot r (fun i => C z i l) n = total (fun x => dot r (fun i => M x i l) n) (List.range k) := fun l hl => by
      rw [dot_congr (w := n) (fun _ _ => rfl) fun i hi => h i l hi hl, dot_total]
    rw [row_congr e j hj, row_total hj]
    refine total_congr fun x _ => ?_
    rw [summed h (m := m) hj, total_map]
    rfl
/-- all ways to part a word behind at least one letter -/
def heads : List Nat → List (List Nat × List Nat)
  | [] => []
  | x :: w => ([x], w) :: (heads w).map fun q => (x :: q.1, q.2)
theorem row_mix {r s : Nat → Rat} {c : Rat} {w : List Nat} {j : Nat} : row n M (fun j => r j + c * s j) w j = row n M r w j + c * row n M s w j := by
  rw [row_add]
  show row n M r w j + row n M (fun j => c * s j) w j = _
  rw [row_scale]
/-- behind each letter the start s comes anew, as often as the end e says, which the start itself does not meet -/
theorem again {s e : Nat → Rat} (h : ∀ x i j, i < n → j < n → C x i j = A x i j + dot (A x i) e n * s j) (z : dot s e n = 0) :
    ∀ {w : List Nat} {r : Nat → Rat} {j : Nat}, j < n → row n C r w j = row n A r w j + total (fun q => dot (row n C r q.1) e n * row n A s q.2 j) (heads w)
  | [], r, j, _ => by
    show r j = r j + 0
    grind
  | x :: w, r, j, hj => by
    have step : ∀ l, l < n → dot r (fun i => C x i l) n = dot r (fun i => A x i l) n + dot (fun j => dot r (fun i => A x i j) n) e n * s l := fun l hl => by
      rw [dot_congr (w := n) (fun _ _ => rfl) fun i hi => h x i l hi hl, dot_add]
      congr 1
      have e1 : dot r (fun i => dot (A x i) e n * s l) n = dot r (fun i => s l * dot (A x i) e n) n := dot_congr (fun _ _ => rfl) fun i _ => Rat.mul_comm _ _
      rw [e1, dot_mul, dot_swap]
      exact Rat.mul_comm _ _
    have r1 : dot (fun j => dot r (fun i => C x i j) n) e n = dot (fun j => dot r (fun i => A x i j) n) e n := by
      rw [dot_congr step fun _ _ => rfl, dot_comm, dot_add, dot_comm]
      have e1 : dot e (fun l => dot (fun j => dot r (fun i => A x i j) n) e n * s l) n = 0 := by
        rw [dot_mul, dot_comm (u := e) (y := s), z, Rat.mul_zero]
      rw [e1]
      grind
    show row n C (fun j => dot r (fun i => C x i j) n) w j = row n A (fun j => dot r (fun i => A x i j) n) w j + (dot (fun j => dot r (fun i => C x i j) n) e n * row n A s w j + total (fun q => dot (row n C r q.1) e n * row n A s q.2 j) ((heads w).map fun q => (x :: q.1, q.2)))
    rw [again h z (w := w) hj, total_map, r1]
    have e2 : row n A (fun j => dot r (fun i => C x i j) n) w j = row n A (fun j => dot r (fun i => A x i j) n) w j + dot (fun j => dot r (fun i => A x i j) n) e n * row n A s w j := by
      rw [row_congr step j hj]
      exact row_mix
    rw [e2]
    show _ + total (fun q => dot (row n C (fun j => dot r (fun i => C x i j) n) q.1) e n * row n A s q.2 j) (heads w) = _
    have e3 : total (fun q => dot (row n C r (x :: q.1)) e n * row n A s q.2 j) (heads w) = total (fun q => dot (row n C (fun j => dot r (fun i => C x i j) n) q.1) e n * row n A s q.2 j) (heads w) := rfl
    rw [← e3]
    grind
end VN

set_option Elab.async false
set_option maxRecDepth 100000
/-! sizes of the rows, columns and numbers of words -/
namespace VN
open RQ VM
def prod (N : Nat → Int) : List Nat → Int
  | [] => 1
  | x :: w => N x * prod N w
theorem prod_ne {N : Nat → Int} (h : ∀ x, N x ≠ 0) : ∀ {w : List Nat}, prod N w ≠ 0
  | [] => by show (1 : Int) ≠ 0; decide
  | x :: w => Int.mul_ne_zero (h x) (prod_ne h)
variable {n a : Nat} {M : Nat → Nat → Nat → Rat} {N : Nat → Int}
theorem row_ov (h : ∀ x i j, i < n → j < n → Ov (N x) a (M x i j)) : ∀ {w : List Nat} {D : Int} {T : Nat} {r : Nat → Rat}, (∀ i, i < n → Ov D T (r i)) → ∀ j, j < n → Ov (D * prod N w) (T + (a + n) * w.length) (row n M r w j)
  | [], D, T, r, hr, j, hj => by
    show Ov (D * 1) (T + (a + n) * 0) (r j)
    rw [Int.mul_one, Nat.mul_zero, Nat.add_zero]
    exact hr j hj
  | x :: w, D, T, r, hr, j, hj => by
    have s : ∀ j, j < n → Ov (D * N x) (T + a + n) (dot r (fun i => M x i j) n) := fun j hj => Ov.dot fun i hi => (hr i hi).mul (h x i j hi hj)
    have e := row_ov h (w := w) s j hj
    have e1 : D * prod N (x :: w) = D * N x * prod N w := (Int.mul_assoc _ _ _).symm
    have e2 : T + (a + n) * (x :: w).length = T + a + n + (a + n) * w.length := by
      rw [List.length_cons, Nat.mul_succ]
      omega
    rw [e1, e2]
    exact e
theorem col_ov (h : ∀ x i j, i < n → j < n → Ov (N x) a (M x i j)) {D : Int} {T : Nat} {c : Nat → Rat} (hc : ∀ i, i < n → Ov D T (c i)) : ∀ {w : List Nat}, ∀ i, i < n → Ov (prod N w * D) ((a + n) * w.length + T) (col n M c w i)
  | [], i, hi => by
    show Ov (1 * D) ((a + n) * 0 + T) (c i)
    rw [Int.one_mul, Nat.mul_zero, Nat.zero_add]
    exact hc i hi
  | x :: w, i, hi => by
    have s := Ov.dot (w := n) (u := M x i) (y := col n M c w) (M := N x * (prod N w * D)) (T := a + ((a + n) * w.length + T)) fun j hj => (h x i j hi hj).mul (col_ov h hc (w := w) j hj)
    have e1 : prod N (x :: w) * D = N x * (prod N w * D) := Int.mul_assoc _ _ _
    have e2 : (a + n) * (x :: w).length + T = a + ((a + n) * w.length + T) + n := by
      rw [List.length_cons, Nat.mul_succ]
      omega
    rw [e1, e2]
    exact s
/-- and what is summed up halfway -/
theorem half_ov {D E : Int} {S T : Nat} {r c : Nat → Rat} (hr : ∀ i, i < n → Ov D S (r i)) (hc : ∀ i, i < n → Ov E T (c i)) {m : Nat} (hm : m ≤ n) : Ov (D * E) (S + T + n) (dot r c m) :=
  (Ov.dot (w := m) fun i hi => (hr i (Nat.lt_of_lt_of_le hi hm)).mul (hc i (Nat.lt_of_lt_of_le hi hm))).up (Nat.add_le_add_left hm _)
/-- the product of the bottoms of the first k numbers -/
def dens (f : Nat → Rat) : Nat → Int
  | 0 => 1
  | k + 1 => dens f k * ((f k).den : Int)
theorem dens_ne {f : Nat → Rat} : ∀ {k : Nat}, dens f k ≠ 0
  | 0 => by show (1 : Int) ≠ 0; decide
  | k + 1 => Int.mul_ne_zero dens_ne (den_ne _)
theorem dens_bt {f : Nat → Rat} {b : Nat} : ∀ {k : Nat}, (∀ i, i < k → Bt b ((f i).den : Int)) → Bt (b * k + 1) (dens f k)
  | 0, _ => by
    show (1 : Nat) < 2 ^ (b * 0 + 1)
    rw [Nat.mul_zero]
    decide
  | k + 1, h => by
    have e := (dens_bt (k := k) fun i hi => h i (by omega)).mul (h k (by omega))
    rw [Nat.mul_succ, Nat.add_right_comm]
    exact e
theorem dens_ov {f : Nat → Rat} {b : Nat} : ∀ {k : Nat}, (∀ i, i < k → Bt b (f i).num ∧ Bt b ((f i).den : Int)) → ∀ i, i < k → Ov (dens f k) (b + (b * k + 1)) (f i)
  | 0, _, i, hi => absurd hi (Nat.not_lt_zero _)
  | k + 1, h, i, hi => by
    rw [Nat.mul_succ]
    rcases Nat.lt_or_eq_of_le (Nat.le_of_lt_succ hi) with q | q
    · have e := (dens_ov (k := k) (fun i hi => h i (by omega)) i q).lift (h k (by omega)).2
      exact e.up (by omega)
    · subst q
      have e := ((Ov.self (h i (by omega)).1).lift (dens_bt (f := f) (b := b) (k := i) fun j hj => (h j (by omega)).2)).comm
      exact e.up (by omega)
/-- .. of a table of n rows of n numbers, read row by row -/
theorem table_ov {n b : Nat} {A : Nat → Nat → Rat} (h : ∀ i j, i < n → j < n → Bt b (A i j).num ∧ Bt b ((A i j).den : Int)) : ∃ N : Int, N ≠ 0 ∧ Bt (b * (n * n) + 1) N ∧ ∀ i j, i < n → j < n → Ov N (b + (b * (n * n) + 1)) (A i j) := by
  have at_ : ∀ t, t < n * n → t / n < n ∧ t % n < n := fun t ht => ⟨div_lt ht, mod_lt ht⟩
  refine ⟨dens (fun t => A (t / n) (t % n)) (n * n), dens_ne, dens_bt fun t ht => (h _ _ (at_ t ht).1 (at_ t ht).2).2, fun i j hi hj => ?_⟩
  have lt : i * n + j < n * n := by
    have : (i + 1) * n ≤ n * n := Nat.mul_le_mul_right n hi
    rw [Nat.succ_mul] at this
    omega
  have e := dens_ov (f := fun t => A (t / n) (t % n)) (b := b) (k := n * n) (fun t ht => h _ _ (at_ t ht).1 (at_ t ht).2) (i * n + j) lt
  have d : (i * n + j) / n = i ∧ (i * n + j) % n = j := by
    have hp : 0 < n := by omega
    rw [Nat.mul_comm]
    exact ⟨by rw [Nat.mul_add_div hp, Nat.div_eq_of_lt hj, Nat.add_zero], by rw [Nat.mul_add_mod, Nat.mod_eq_of_lt hj]⟩
  have e : Ov _ _ (A ((i * n + j) / n) ((i * n + j) % n)) := e
  rw [d.1, d.2] at e
  exact e
end VN

set_option Elab.async false
set_option maxRecDepth 100000
namespace RX
open PySem L2
/-! ### nested data: what stands at a value, and that it stays -/
inductive Dat where
  | non
  | bl (b : Bool)
  | int (i : Int)
  | str (s : Str)
  | rat (q : Rat)
  | tup (ds : List Dat)
  | lst (ds : List Dat)
  | sq (ds : List Dat)
/-- the value holds the data; none of its objects is in N -/
inductive At (C : Addr) (N : Addr → Prop) (H : Hp) : V → Dat → Prop where
  | non : At C N H .non .non
  | bl (b : Bool) : At C N H (.bl b) (.bl b)
  | int (i : Int) : At C N H (.int i) (.int i)
  | str (s : Str) : At C N H (.str s) (.str s)
  | rat {p : Addr} {q : Rat} (h : RatAt C H p q.num (q.den : Int)) (n : ¬ N p) : At C N H (.ref p) (.rat q)
  | tup {p : Addr} {xs : List V} {ds : List Dat} (h : H p = some (.tup xs)) (n : ¬ N p) (l : xs.length = ds.length) (e : ∀ (i : Nat) (x : V) (d : Dat), xs[i]? = some x → ds[i]? = some d → At C N H x d) : At C N H (.ref p) (.tup ds)
  | lst {p : Addr} {xs : List V} {ds : List Dat} (h : H p = some (.lst xs)) (n : ¬ N p) (l : xs.length = ds.length) (e : ∀ (i : Nat) (x : V) (d : Dat), xs[i]? = some x → ds[i]? = some d → At C N H x d) : At C N H (.ref p) (.lst ds)
  | sq {p : Addr} {xs : List V} {ds : List Dat} (h : H p = some (.tup xs) ∨ H p = some (.lst xs)) (n : ¬ N p) (l : xs.length = ds.length) (e : ∀ (i : Nat) (x : V) (d : Dat), xs[i]? = some x → ds[i]? = some d → At C N H x d) : At C N H (.ref p) (.sq ds)
/-- all but what N holds stays -/
structure Keep (N : Addr → Prop) (H H' : Hp) : Prop where
  k : ∀ b o, H b = some o → ¬ N b → H' b = some o
  a : ∀ b, H b ≠ none → H' b ≠ none
def Alc (N : Addr → Prop) (H : Hp) : Prop := ∀ b, N b → H b ≠ none
/-- N and one more -/
def And1 (N : Addr → Prop) (D : Addr) : Addr → Prop := fun b => N b ∨ b = D
def Emp : Addr → Prop := fun _ => False
theorem Keep.refl {N : Addr → Prop} {H : Hp} : Keep N H H := ⟨fun _ _ h _ => h, fun _ h => h⟩
theorem Keep.trans {N : Addr → Prop} {H H1 H2 : Hp} (x : Keep N H H1) (y : Keep N H1 H2) : Keep N H H2 := ⟨fun b o h n => y.k b o (x.k b o h n) n, fun b h => y.a b (x.a b h)⟩
theorem Same.keep {N : Addr → Prop} {H H' : Hp} (s : Same H H') : Keep N H H' := ⟨fun b o h _ => s b o h, fun b h => by
  cases e : H b with
  | none => exact absurd e h
  | some o => rw [s b o e]; intro z; cases z⟩
theorem Keep.same {H H' : Hp} (k : Keep Emp H H') : Same H H' := fun b o h => k.k b o h id
theorem Keep.more {N M : Addr → Prop} {H H' : Hp} (k : Keep N H H') (s : ∀ b, N b → M b) : Keep M H H' := ⟨fun b o h n => k.k b o h fun z => n (s b z), k.a⟩
theorem Keep.upd {N : Addr → Prop} {H : Hp} {D : Addr} {o : HO} (h : N D) : Keep N H (L2.upd H D o) := ⟨fun b o' e n => by
  rw [upd_ne fun z => n (by rw [z]; exact h)]
  exact e, fun b e => by
  by_cases z : b = D
  · rw [z, upd_same]; intro y; cases y
  · rw [upd_ne z]; exact e⟩
theorem Keep.new {N : Addr → Prop} {H : Hp} {D : Addr} {o : HO} (h : H D = none) : Keep N H (L2.upd H D o) := Same.keep (Same.upd h)
theorem Keep.but {N : Addr → Prop} {H H' : Hp} {a : Addr} (b : But a H H') (n : N a) (s : H' a ≠ none) : Keep N H H' := ⟨fun c o h m => b c o h fun z => m (by rw [z]; exact n), fun c h => by
  by_cases e : c = a
  · rw [e]; exact s
  · cases q : H c with
    | none => exact absurd q h
    | some o => rw [b c o q e]; intro y; cases y⟩
theorem Keep.free {N : Addr → Prop} {H H' : Hp} {r : Addr} (k : Keep N H H') (h : H' r = none) : H r = none := by
  cases e : H r with
  | none => rfl
  | some o => exact absurd h (k.a r (by rw [e]; intro z; cases z))
theorem Alc.keep {N M : Addr → Prop} {H H' : Hp} (a : Alc N H) (k : Keep M H H') : Alc N H' := fun b n => k.a b (a b n)
theorem Alc.fresh {N : Addr → Prop} {H : Hp} {r : Addr} (a : Alc N H) (h : H r = none) : ¬ N r := fun n => a r n h
theorem Alc.and {N : Addr → Prop} {H : Hp} {D : Addr} (a : Alc N H) (h : H D ≠ none) : Alc (And1 N D) H := fun b n => by
  rcases n with n | n
  · exact a b n
  · rw [n]; exact h
theorem alc_emp {H : Hp} : Alc Emp H := fun _ h => h.elim
section
variable {C : Addr} {N M : Addr → Prop} {H H' : Hp}
theorem At.keep {v : V} {d : Dat} (h : At C N H v d) (k : Keep N H H') : At C N H' v d := by
  induction h with
  | non => exact .non
  | bl b => exact .bl b
  | int i => exact .int i
  | str s => exact .str s
  | rat h n => obtain ⟨dx, h⟩ := h; exact .rat ⟨dx, k.k _ _ h n⟩ n
  | tup h n l e ih => exact .tup (k.k _ _ h n) n l ih
  | lst h n l e ih => exact .lst (k.k _ _ h n) n l ih
  | sq h n l e ih => exact .sq (h.imp (fun h => k.k _ _ h n) fun h => k.k _ _ h n) n l ih
theorem At.same {v : V} {d : Dat} (h : At C N H v d) (s : Same H H') : At C N H' v d := h.keep (Same.keep s)
/-- a set that holds no more of what is there -/
theorem At.grow {v : V} {d : Dat} (h : At C N H v d) (s : ∀ b, M b → N b ∨ H b = none) : At C M H v d := by
  induction h with
  | non => exact .non
  | bl b => exact .bl b
  | int i => exact .int i
  | str s => exact .str s
  | rat h n =>
    refine .rat h fun z => ?_
    rcases s _ z with y | y
    · exact n y
    · obtain ⟨dx, h⟩ := h; rw [y] at h; cases h
  | tup h n l e ih =>
    refine .tup h (fun z => ?_) l ih
    rcases s _ z with y | y
    · exact n y
    · rw [y] at h; cases h
  | lst h n l e ih =>
    refine .lst h (fun z => ?_) l ih
    rcases s _ z with y | y
    · exact n y
    · rw [y] at h; cases h
  | sq h n l e ih =>
    refine .sq h (fun z => ?_) l ih
    rcases s _ z with y | y
    · exact n y
    · rw [y] at h; rcases h with h | h <;> cases h
theorem At.less {v : V} {d : Dat} (h : At C N H v d) (s : ∀ b, M b → N b) : At C M H v d := h.grow fun b z => .inl (s b z)
/-- with a new list in the set -/
theorem At.and {v : V} {d : Dat} {D : Addr} (h : At C N H v d) (f : H D = none) : At C (And1 N D) H v d := h.grow fun b z => z.imp id fun e => by rw [e]; exact f
theorem At.drop {v : V} {d : Dat} {D : Addr} (h : At C (And1 N D) H v d) : At C N H v d := h.less fun _ z => .inl z
theorem At.notin {p : Addr} {d : Dat} (h : At C N H (.ref p) d) : ¬ N p := by
  cases h <;> assumption
theorem At.there {p : Addr} {d : Dat} (h : At C N H (.ref p) d) : H p ≠ none := by
  cases h with
  | rat h n => obtain ⟨dx, h⟩ := h; rw [h]; intro z; cases z
  | tup h n l e => rw [h]; intro z; cases z
  | lst h n l e => rw [h]; intro z; cases z
  | sq h n l e => rcases h with h | h <;> (rw [h]; intro z; cases z)
theorem At.sqE {p : Addr} {ds : List Dat} (h : At C N H (.ref p) (.sq ds)) : ∃ xs, (H p = some (.tup xs) ∨ H p = some (.lst xs)) ∧ xs.length = ds.length ∧ ∀ (i : Nat) (x : V) (d : Dat), xs[i]? = some x → ds[i]? = some d → At C N H x d := by
  cases h with
  | sq h n l e => exact ⟨_, h, l, e⟩
theorem At.sqV {v : V} {ds : List Dat} (h : At C N H v (.sq ds)) : ∃ p, v = .ref p := by cases h; exact ⟨_, rfl⟩
/-- a list or a tuple is one of either kind -/
inductive Le : Dat → Dat → Prop where
  | refl (d : Dat) : Le d d
  | tupS {ds es : List Dat} (l : ds.length = es.length) (h : ∀ (i : Nat) (d e : Dat), ds[i]? = some d → es[i]? = some e → Le d e) : Le (.tup ds) (.sq es)
  | lstS {ds es : List Dat} (l : ds.length = es.length) (h : ∀ (i : Nat) (d e : Dat), ds[i]? = some d → es[i]? = some e → Le d e) : Le (.lst ds) (.sq es)
theorem At.weak {d e : Dat} (le : Le d e) : ∀ {v : V}, At C N H v d → At C N H v e := by
  induction le with
  | refl d => exact fun h => h
  | tupS l h ih =>
    intro v hv
    obtain ⟨p, rfl⟩ := (by cases hv; exact ⟨_, rfl⟩ : ∃ p, v = .ref p)
    cases hv with
    | tup h1 n l1 e1 =>
      refine .sq (.inl h1) n (by rw [l1, l]) fun i x d hx hd => ?_
      have lt : i < _ := (List.getElem?_eq_some_iff.mp hd).1
      have hd2 := List.getElem?_eq_getElem (l := _) (show i < _ from by rw [← l] at lt; exact lt)
      exact ih i _ d hd2 hd (e1 i x _ hx hd2)
  | lstS l h ih =>
    intro v hv
    obtain ⟨p, rfl⟩ := (by cases hv; exact ⟨_, rfl⟩ : ∃ p, v = .ref p)
    cases hv with
    | lst h1 n l1 e1 =>
      refine .sq (.inr h1) n (by rw [l1, l]) fun i x d hx hd => ?_
      have lt : i < _ := (List.getElem?_eq_some_iff.mp hd).1
      have hd2 := List.getElem?_eq_getElem (l := _) (show i < _ from by rw [← l] at lt; exact lt)
      exact ih i _ d hd2 hd (e1 i x _ hx hd2)
theorem At.tupE {p : Addr} {ds : List Dat} (h : At C N H (.ref p) (.tup ds)) : ∃ xs, H p = some (.tup xs) ∧ xs.length = ds.length ∧ ∀ (i : Nat) (x : V) (d : Dat), xs[i]? = some x → ds[i]? = some d → At C N H x d := by
  cases h with
  | tup h n l e => exact ⟨_, h, l, e⟩
theorem At.lstE {p : Addr} {ds : List Dat} (h : At C N H (.ref p) (.lst ds)) : ∃ xs, H p = some (.lst xs) ∧ xs.length = ds.length ∧ ∀ (i : Nat) (x : V) (d : Dat), xs[i]? = some x → ds[i]? = some d → At C N H x d := by
  cases h with
  | lst h n l e => exact ⟨_, h, l, e⟩
theorem At.tupV {v : V} {ds : List Dat} (h : At C N H v (.tup ds)) : ∃ p, v = .ref p := by cases h; exact ⟨_, rfl⟩
theorem At.lstV {v : V} {ds : List Dat} (h : At C N H v (.lst ds)) : ∃ p, v = .ref p := by cases h; exact ⟨_, rfl⟩
theorem At.ratV {v : V} {q : Rat} (h : At C N H v (.rat q)) : ∃ p, v = .ref p ∧ RatAt C H p q.num (q.den : Int) := by cases h with | rat h n => exact ⟨_, rfl, h⟩
theorem At.intV {v : V} {i : Int} (h : At C N H v (.int i)) : v = .int i := by cases h; rfl
theorem At.strV {v : V} {s : Str} (h : At C N H v (.str s)) : v = .str s := by cases h; rfl
/-- the items, by a function -/
def rng (n : Nat) (f : Nat → Dat) : List Dat := (List.range n).map f
theorem rng_len {n : Nat} {f : Nat → Dat} : (rng n f).length = n := by unfold rng; rw [List.length_map, List.length_range]
theorem rng_get {n i : Nat} {f : Nat → Dat} (h : i < n) : (rng n f)[i]? = some (f i) := by
  unfold rng
  rw [List.getElem?_map, List.getElem?_range h]
  rfl
theorem rng_lt {n i : Nat} {f : Nat → Dat} {d : Dat} (h : (rng n f)[i]? = some d) : i < n ∧ d = f i := by
  have hi : i < n := by
    have := (List.getElem?_eq_some_iff.mp h).1
    rw [rng_len] at this
    exact this
  rw [rng_get hi] at h
  exact ⟨hi, (Option.some.inj h).symm⟩
theorem rng_succ {n : Nat} {f : Nat → Dat} : rng (n + 1) f = rng n f ++ [f n] := by
  unfold rng
  rw [List.range_succ, List.map_append]
  rfl
theorem rng_ext {n : Nat} {f g : Nat → Dat} (h : ∀ i, i < n → f i = g i) : rng n f = rng n g := List.map_congr_left fun i hi => h i (List.mem_range.mp hi)
theorem At.tupR {p : Addr} {n : Nat} {f : Nat → Dat} (h : At C N H (.ref p) (.tup (rng n f))) : ∃ xs, H p = some (.tup xs) ∧ xs.length = n ∧ ∀ i, i < n → ∃ x, xs[i]? = some x ∧ At C N H x (f i) := by
  obtain ⟨xs, hp, l, e⟩ := h.tupE
  rw [rng_len] at l
  refine ⟨xs, hp, l, fun i hi => ?_⟩
  have hx : xs[i]? = some (xs[i]'(by omega)) := List.getElem?_eq_getElem _
  exact ⟨_, hx, e i _ _ hx (rng_get hi)⟩
theorem At.lstR {p : Addr} {n : Nat} {f : Nat → Dat} (h : At C N H (.ref p) (.lst (rng n f))) : ∃ xs, H p = some (.lst xs) ∧ xs.length = n ∧ ∀ i, i < n → ∃ x, xs[i]? = some x ∧ At C N H x (f i) := by
  obtain ⟨xs, hp, l, e⟩ := h.lstE
  rw [rng_len] at l
  refine ⟨xs, hp, l, fun i hi => ?_⟩
  have hx : xs[i]? = some (xs[i]'(by omega)) := List.getElem?_eq_getElem _
  exact ⟨_, hx, e i _ _ hx (rng_get hi)⟩
theorem At.sqR {p : Addr} {n : Nat} {f : Nat → Dat} (h : At C N H (.ref p) (.sq (rng n f))) : ∃ xs, (H p = some (.tup xs) ∨ H p = some (.lst xs)) ∧ xs.length = n ∧ ∀ i, i < n → ∃ x, xs[i]? = some x ∧ At C N H x (f i) := by
  obtain ⟨xs, hp, l, e⟩ := h.sqE
  rw [rng_len] at l
  refine ⟨xs, hp, l, fun i hi => ?_⟩
  have hx : xs[i]? = some (xs[i]'(by omega)) := List.getElem?_eq_getElem _
  exact ⟨_, hx, e i _ _ hx (rng_get hi)⟩
theorem Le.tupR {n : Nat} {f g : Nat → Dat} (h : ∀ i, i < n → Le (f i) (g i)) : Le (.tup (rng n f)) (.sq (rng n g)) := .tupS (by rw [rng_len, rng_len]) fun i d e hd he => by
  obtain ⟨hi, rfl⟩ := rng_lt hd
  obtain ⟨_, rfl⟩ := rng_lt he
  exact h i hi
theorem Le.lstR {n : Nat} {f g : Nat → Dat} (h : ∀ i, i < n → Le (f i) (g i)) : Le (.lst (rng n f)) (.sq (rng n g)) := .lstS (by rw [rng_len, rng_len]) fun i d e hd he => by
  obtain ⟨hi, rfl⟩ := rng_lt hd
  obtain ⟨_, rfl⟩ := rng_lt he
  exact h i hi
/-- a new tuple of what is there -/
theorem At.newT {xs : List V} {ds : List Dat} {r : Addr} (a : Alc N H) (f : H r = none) (l : xs.length = ds.length) (e : ∀ (i : Nat) (x : V) (d : Dat), xs[i]? = some x → ds[i]? = some d → At C N H x d) : At C N (upd H r (.tup xs)) (.ref r) (.tup ds) :=
  .tup upd_same (a.fresh f) l fun i x d hx hd => (e i x d hx hd).keep (Keep.new f)
theorem At.newL {xs : List V} {ds : List Dat} {r : Addr} (a : Alc N H) (f : H r = none) (l : xs.length = ds.length) (e : ∀ (i : Nat) (x : V) (d : Dat), xs[i]? = some x → ds[i]? = some d → At C N H x d) : At C N (upd H r (.lst xs)) (.ref r) (.lst ds) :=
  .lst upd_same (a.fresh f) l fun i x d hx hd => (e i x d hx hd).keep (Keep.new f)
theorem items0 : ∀ (i : Nat) (x : V) (d : Dat), ([] : List V)[i]? = some x → ([] : List Dat)[i]? = some d → At C N H x d := fun i x d h _ => by simp at h
theorem items1 {x : V} {d : Dat} (h : At C N H x d) : ∀ (i : Nat) (y : V) (e : Dat), [x][i]? = some y → [d][i]? = some e → At C N H y e := fun i y e h1 h2 => by
  match i with
  | 0 => cases h1; cases h2; exact h
  | i + 1 => simp at h1
theorem itemsC {x : V} {d : Dat} {xs : List V} {ds : List Dat} (h : At C N H x d) (t : ∀ (i : Nat) (y : V) (e : Dat), xs[i]? = some y → ds[i]? = some e → At C N H y e) : ∀ (i : Nat) (y : V) (e : Dat), (x :: xs)[i]? = some y → (d :: ds)[i]? = some e → At C N H y e := fun i y e h1 h2 => by
  match i with
  | 0 => cases h1; cases h2; exact h
  | i + 1 => exact t i y e h1 h2
/-! ### a list that a comprehension or a loop builds -/
structure Bld (C : Addr) (M N : Addr → Prop) (H0 : Hp) (D : Addr) (ds : List Dat) (H2 : Hp) : Prop where
  xs : ∃ xs, H2 D = some (.lst xs) ∧ xs.length = ds.length ∧ ∀ (i : Nat) (x : V) (d : Dat), xs[i]? = some x → ds[i]? = some d → At C (And1 N D) H2 x d
  k : Keep M H0 H2
theorem bld0 {D : Addr} (f : H D = none) : Bld C M N H D [] (upd H D (.lst [])) := ⟨⟨[], upd_same, rfl, fun i x d h => by simp at h⟩, Keep.new f⟩
theorem Bld.step {H0 H2 H3 : Hp} {D : Addr} {ds : List Dat} {x : V} {d : Dat} (B : Bld C M N H0 D ds H2) (f : H0 D = none) (k : Keep M H2 H3) (s : ∀ b, M b → N b) (nD : ¬ M D) (h : At C (And1 N D) H3 x d) :
    ∃ acc, H3 D = some (.lst acc) ∧ acc.length = ds.length ∧ Bld C M N H0 D (ds ++ [d]) (upd H3 D (.lst (acc ++ [x]))) := by
  obtain ⟨xs, hD, l, e⟩ := B.xs
  have ku : Keep (And1 N D) H3 (upd H3 D (.lst (xs ++ [x]))) := Keep.upd (.inr rfl)
  refine ⟨xs, k.k _ _ hD nD, l, ⟨⟨xs ++ [x], upd_same, by rw [List.length_append, List.length_append, l]; rfl, fun i y z h1 h2 => ?_⟩, ⟨fun b o hb n => ?_, fun b hb => ?_⟩⟩⟩
  · by_cases lt : i < xs.length
    · rw [List.getElem?_append_left lt] at h1
      rw [List.getElem?_append_left (by omega)] at h2
      exact ((e i y z h1 h2).keep (k.more fun b z => .inl (s b z))).keep ku
    · rw [List.getElem?_append_right (by omega)] at h1
      rw [List.getElem?_append_right (by omega), ← l] at h2
      exact (items1 h _ _ _ h1 h2).keep ku
  · rw [upd_ne (ne_of_none hb f)]
    exact k.k _ _ (B.k.k _ _ hb n) n
  · exact (Keep.upd (N := And1 N D) (.inr rfl)).a b (k.a b (B.k.a b hb))
theorem Bld.done {H0 H2 : Hp} {D : Addr} {ds : List Dat} (B : Bld C M N H0 D ds H2) (n : ¬ N D) : At C N H2 (.ref D) (.lst ds) := by
  obtain ⟨xs, hD, l, e⟩ := B.xs
  exact .lst hD n l fun i x d h1 h2 => (e i x d h1 h2).drop
/-- what was there before stays as it is while the list is built -/
theorem Bld.old {H0 H2 : Hp} {D : Addr} {ds : List Dat} {v : V} {d : Dat} (B : Bld C M N H0 D ds H2) (f : H0 D = none) (s : ∀ b, M b → N b) (h : At C N H0 v d) : At C (And1 N D) H2 v d := (h.and f).keep (B.k.more fun b z => .inl (s b z))
theorem Bld.alc {H0 H2 : Hp} {D : Addr} {ds : List Dat} (B : Bld C M N H0 D ds H2) (a : Alc N H0) : Alc (And1 N D) H2 := (a.keep B.k).and (by obtain ⟨xs, hD, _⟩ := B.xs; rw [hD]; intro z; cases z)
end
/-! ### rows, tables, pairs -/
def ratR (w : Nat) (u : Nat → Rat) : Dat := .tup (rng w fun j => .rat (u j))
def ratT (h w : Nat) (U : Nat → Nat → Rat) : Dat := .tup (rng h fun i => ratR w (U i))
def prD (q : Rat) : Dat := .tup [.int q.num, .int (q.den : Int)]
def prL (w : Nat) (u : Nat → Rat) : Dat := .lst (rng w fun j => prD (u j))
def prT (h w : Nat) (U : Nat → Nat → Rat) : Dat := .lst (rng h fun i => prL w (U i))
def intL (w : Nat) (z : Nat → Int) : Dat := .lst (rng w fun j => .int (z j))
theorem At.pair {C : Addr} {N : Addr → Prop} {H : Hp} {v : V} {q : Rat} (h : At C N H v (prD q)) : ∃ p, v = .ref p ∧ PairAt H p q.num (q.den : Int) ∧ ¬ N p := by
  obtain ⟨p, rfl⟩ := h.tupV
  obtain ⟨xs, hp, l, e⟩ := h.tupE
  match xs, l with
  | [x, y], _ =>
    have h0 := (e 0 x _ rfl rfl).intV
    have h1 := (e 1 y _ rfl rfl).intV
    subst h0 h1
    exact ⟨p, rfl, hp, h.notin⟩
theorem at_pair {C : Addr} {N : Addr → Prop} {H : Hp} {p : Addr} {q : Rat} (h : PairAt H p q.num (q.den : Int)) (n : ¬ N p) : At C N H (.ref p) (prD q) := .tup h n rfl (itemsC (.int _) (items1 (.int _)))
theorem pe_fldK {X : Cx} {K : PySem.W.Frag} (hK : X.K = K) {e : Expr} {f : Str} {pos : Pos} {ta : TE} (he : PE X e ta) (hb : attributeBase e f X.env (eval e X.env) = eval e X.env) : PE X (.Attribute e f pos) (tFld K ta f) := by
  subst hK
  exact pe_fld he hb
theorem pi_listK {X : Cx} {tg : Expr} {K : PySem.W.Frag} (hK : X.K = K) {l : Expr} {tl : TE} (hl : PE X l tl) : PI X tg l (iList K tl) := by
  subst hK
  exact pi_list hl
theorem pi_tupK {X : Cx} {tg : Expr} {K : PySem.W.Frag} (hK : X.K = K) {l : Expr} {tl : TE} (hl : PE X l tl) : PI X tg l (iTup K tl) := by
  subst hK
  exact pi_tup hl
theorem itF {b : Bool} {A B : Prop} (h : b = false) (x : B) : if b = true then A else B := by
  subst h
  exact iteF x
theorem itT {b : Bool} {A B : Prop} (h : b = true) (x : A) : if b = true then A else B := by
  subst h
  exact iteT x
theorem ixN_at {n j : Nat} {z : Int} (e : z = (j : Int)) (h : j < n) : ixN n z = some j := by
  subst e
  unfold ixN
  rw [if_pos (by omega), if_pos (by omega)]
  rfl
theorem small_of {n m : Nat} (h : n = m) (l : m ≤ 1000) : n < sizeLine := small1000 (by omega)
end RX

set_option Elab.async false
set_option maxRecDepth 100000
namespace RX
open PySem L2
open RQ (Bt)
abbrev PrQ (H : Hp) (p : Addr) (q : Rat) : Prop := PairAt H p q.num (q.den : Int)
theorem pr_of {n d : Int} (hd : 0 < d) (c : Nat.Coprime n.natAbs d.natAbs) : ∃ q : Rat, q.num = n ∧ (q.den : Int) = d :=
  ⟨⟨n, d.natAbs, by omega, c⟩, rfl, by show ((d.natAbs : Nat) : Int) = d; omega⟩
theorem den_ne (q : Rat) : (q.den : Int) ≠ 0 := by have := q.den_nz; omega
theorem FeedAt.there {H : Hp} {a cl : Addr} (f : FeedAt H a cl) : H a ≠ none := by
  obtain ⟨xs, h⟩ := f.lst
  rw [h]; intro z; cases z
theorem FeedAt.ne_new {H : Hp} {a cl r : Addr} (h : FeedAt H a cl) (n : H r = none) : r ≠ a ∧ r ≠ cl := by
  obtain ⟨cs, i, p, s, f⟩ := h
  exact ⟨(ne_of_none f.hA n).symm, (ne_of_none f.hC n).symm⟩
/-! ### texts -/
def cl (s : Str) : List Nat := s.cps.toList
theorem cl_app (a b : Str) : cl (a ++ b) = cl a ++ cl b := by
  unfold cl
  rw [PySem.Str.cps_append, Array.toList_append]
theorem cl_len (a : Str) : (cl a).length = a.length := rfl
theorem cl_inj {a b : Str} (h : cl a = cl b) : a = b := by
  cases a; cases b
  congr 1
  exact Array.ext' h
theorem str_len {a b : Str} : (a ++ b).length = a.length + b.length := Array.size_append
/-- the text of n / d -/
def txt (n d : Int) : Str := if d = 1 then toString n else (toString n ++ "/") ++ toString d
def NumB (q : Rat) : Prop := Bt 140 q.num ∧ Bt 140 (q.den : Int)
theorem txlen {x : Int} (h : Bt 140 x) : (toString x : Str).length ≤ 142 := by
  show (Str.ofString (toString x)).length ≤ 142
  rw [PySem.ofString_length]
  exact PySem.int_text_length_le (k := 141) (by decide) (Nat.lt_of_le_of_lt h.log (by decide))
theorem txt_len {q : Rat} (h : NumB q) : (txt q.num q.den).length ≤ 290 := by
  have l1 := txlen h.1
  have l2 := txlen h.2
  unfold txt
  split
  · omega
  · rw [str_len, str_len]
    have : ("/" : Str).length = 1 := rfl
    omega
/-! ### terms -/
inductive Tm where
  | num (q : Rat)
  | letter (c : Str)
  | plus (a b : Tm)
  | row (a b : Tm)
  | star (a : Tm)
def brk (b : Bool) (s : Str) : Str := if b then ("(" ++ s) ++ ")" else s
theorem brk_len (b : Bool) (s : Str) : (brk b s).length ≤ s.length + 2 := by
  unfold brk
  split
  · rw [str_len, str_len]
    have e1 : ("(" : Str).length = 1 := rfl
    have e2 : (")" : Str).length = 1 := rfl
    omega
  · omega
namespace Tm
def ok : Tm → Prop
  | num q => NumB q
  | letter c => ∃ n : Nat, 97 ≤ n ∧ n ≤ 100 ∧ c = (⟨#[n]⟩ : Str)
  | plus a b => a.ok ∧ b.ok
  | row a b => a.ok ∧ b.ok
  | star a => a.ok
def sz : Tm → Nat
  | num _ => 1
  | letter _ => 1
  | plus a b => a.sz + b.sz + 1
  | row a b => a.sz + b.sz + 1
  | star a => a.sz + 1
def own : Tm → Dat
  | num q => .tup [.str "number", prD q]
  | letter c => .tup [.str "letter", .str c]
  | plus a b => .tup [.str "plus", a.own, b.own]
  | row a b => .tup [.str "row", a.own, b.own]
  | star a => .tup [.str "star", a.own]
def made : Tm → Dat
  | num q => .tup [.str "number", .rat q]
  | letter c => .tup [.str "letter", .str c]
  | plus a b => .tup [.str "plus", a.made, b.made]
  | row a b => .tup [.str "row", a.made, b.made]
  | star a => .tup [.str "star", a.made]
def isP : Tm → Bool
  | plus _ _ => true
  | _ => false
def isPR : Tm → Bool
  | plus _ _ => true
  | row _ _ => true
  | _ => false
def kind : Tm → Str
  | num _ => "number"
  | letter _ => "letter"
  | plus _ _ => "plus"
  | row _ _ => "row"
  | star _ => "star"
def text : Tm → Str
  | num q => txt q.num q.den
  | letter c => c
  | plus a b => (a.text ++ "+") ++ brk b.isP b.text
  | row a b => (brk a.isP a.text ++ ".") ++ brk b.isPR b.text
  | star a => brk a.isPR a.text ++ "*"
theorem sz_pos : ∀ t : Tm, 1 ≤ t.sz
  | num _ => Nat.le_refl _
  | letter _ => Nat.le_refl _
  | plus _ _ => Nat.le_add_left _ _
  | row _ _ => Nat.le_add_left _ _
  | star _ => Nat.le_add_left _ _
theorem text_len : ∀ t : Tm, t.ok → t.text.length ≤ 300 * t.sz
  | num q, h => Nat.le_trans (txt_len h) (by show 290 ≤ 300 * 1; decide)
  | letter c, h => by
    show c.length ≤ 300 * 1
    obtain ⟨n, _, _, rfl⟩ := h
    show 1 ≤ 300 * 1
    decide
  | plus a b, h => by
    have ha := text_len a h.1
    have hb := text_len b h.2
    have := brk_len b.isP b.text
    show ((a.text ++ "+") ++ brk b.isP b.text).length ≤ 300 * (a.sz + b.sz + 1)
    rw [str_len, str_len]
    have e1 : ("+" : Str).length = 1 := rfl
    omega
  | row a b, h => by
    have ha := text_len a h.1
    have hb := text_len b h.2
    have := brk_len b.isPR b.text
    have := brk_len a.isP a.text
    show ((brk a.isP a.text ++ ".") ++ brk b.isPR b.text).length ≤ 300 * (a.sz + b.sz + 1)
    rw [str_len, str_len]
    have e1 : ("." : Str).length = 1 := rfl
    omega
  | star a, h => by
    have ha := text_len a h
    have := brk_len a.isPR a.text
    show (brk a.isPR a.text ++ "*").length ≤ 300 * (a.sz + 1)
    rw [str_len]
    have e1 : ("*" : Str).length = 1 := rfl
    omega
end Tm
/-! ### pieces -/
inductive It where
  | s (z : Str)
  | t (u : Tm)
namespace It
def dat : It → Dat
  | s z => .str z
  | t u => u.made
def text : It → Str
  | s z => z
  | t u => u.text
def wt : It → Nat
  | s _ => 1
  | t u => 7 * u.sz
def ok : It → Prop
  | s _ => True
  | t u => u.ok
end It
def held (b : Bool) (t : Tm) : List It := if b then [.s "(", .t t, .s ")"] else [.t t]
def pieces : Tm → List It
  | .num q => [.s (txt q.num q.den)]
  | .letter c => [.s c]
  | .plus a b => [.t a, .s "+"] ++ held b.isP b
  | .row a b => (held a.isP a ++ [.s "."]) ++ held b.isPR b
  | .star a => held a.isPR a ++ [.s "*"]
def cat (l : List It) : List Nat := (l.map fun i => cl i.text).flatten
def wts (l : List It) : Nat := (l.map It.wt).sum
theorem cat_app (l m : List It) : cat (l ++ m) = cat l ++ cat m := by
  unfold cat
  rw [List.map_append, List.flatten_append]
theorem wts_app (l m : List It) : wts (l ++ m) = wts l + wts m := by
  unfold wts
  rw [List.map_append, List.sum_append_nat]
theorem wts_rev (l : List It) : wts l.reverse = wts l := by
  induction l with
  | nil => rfl
  | cons a l ih =>
    rw [List.reverse_cons, wts_app, ih]
    show wts l + (a.wt + 0) = a.wt + wts l
    omega
theorem cat_held (b : Bool) (t : Tm) : cat (held b t) = cl (brk b t.text) := by
  unfold held brk
  cases b with
  | true =>
    rw [if_pos rfl, if_pos rfl, cl_app, cl_app]
    show cl _ ++ (cl _ ++ (cl _ ++ [])) = _
    rw [List.append_nil, List.append_assoc]
    rfl
  | false =>
    rw [if_neg Bool.false_ne_true, if_neg Bool.false_ne_true]
    show cl _ ++ [] = _
    rw [List.append_nil]
    rfl
theorem cat_one (i : It) : cat [i] = cl i.text := List.append_nil _
theorem cat_pieces : ∀ t : Tm, cat (pieces t) = cl t.text
  | .num q => cat_one _
  | .letter c => cat_one _
  | .plus a b => by
    show cat ([It.t a, .s "+"] ++ held b.isP b) = cl ((a.text ++ "+") ++ brk b.isP b.text)
    rw [cat_app, cat_held, cl_app, cl_app]
    show (cl _ ++ (cl _ ++ [])) ++ _ = _
    rw [List.append_nil]
    rfl
  | .row a b => by
    show cat ((held a.isP a ++ [It.s "."]) ++ held b.isPR b) = cl ((brk a.isP a.text ++ ".") ++ brk b.isPR b.text)
    rw [cat_app, cat_app, cat_held, cat_held, cl_app, cl_app, cat_one]
    rfl
  | .star a => by
    show cat (held a.isPR a ++ [It.s "*"]) = cl (brk a.isPR a.text ++ "*")
    rw [cat_app, cat_held, cl_app, cat_one]
    rfl
theorem wts_held (b : Bool) (t : Tm) : wts (held b t) ≤ 7 * t.sz + 2 := by
  unfold held
  split
  · show 1 + (7 * t.sz + (1 + 0)) ≤ _
    omega
  · show 7 * t.sz + 0 ≤ _
    omega
theorem wts_pieces : ∀ t : Tm, wts (pieces t) < 7 * t.sz
  | .num q => by show 1 + 0 < 7 * 1; decide
  | .letter c => by show 1 + 0 < 7 * 1; decide
  | .plus a b => by
    show wts ([It.t a, .s "+"] ++ held b.isP b) < 7 * (a.sz + b.sz + 1)
    have := wts_held b.isP b
    rw [wts_app]
    show 7 * a.sz + (1 + 0) + _ < _
    omega
  | .row a b => by
    show wts ((held a.isP a ++ [It.s "."]) ++ held b.isPR b) < 7 * (a.sz + b.sz + 1)
    have := wts_held b.isPR b
    have := wts_held a.isP a
    rw [wts_app, wts_app]
    show _ + (1 + 0) + _ < _
    omega
  | .star a => by
    show wts (held a.isPR a ++ [It.s "*"]) < 7 * (a.sz + 1)
    have := wts_held a.isPR a
    rw [wts_app]
    show _ + (1 + 0) < _
    omega
theorem ok_held {b : Bool} {t : Tm} (h : t.ok) : ∀ i ∈ held b t, It.ok i := by
  unfold held
  intro i hi
  split at hi
  · simp only [List.mem_cons, List.not_mem_nil, or_false] at hi
    rcases hi with rfl | rfl | rfl
    · trivial
    · exact h
    · trivial
  · simp only [List.mem_cons, List.not_mem_nil, or_false] at hi
    subst hi
    exact h
theorem ok_pieces : ∀ t : Tm, t.ok → ∀ i ∈ pieces t, It.ok i
  | .num q, _, i, hi => by
    have hi : i ∈ [It.s (txt q.num q.den)] := hi
    simp only [List.mem_cons, List.not_mem_nil, or_false] at hi
    subst hi
    trivial
  | .letter c, _, i, hi => by
    have hi : i ∈ [It.s c] := hi
    simp only [List.mem_cons, List.not_mem_nil, or_false] at hi
    subst hi
    trivial
  | .plus a b, h, i, hi => by
    have hi : i ∈ [It.t a, .s "+"] ++ held b.isP b := hi
    rcases List.mem_append.mp hi with hi | hi
    · simp only [List.mem_cons, List.not_mem_nil, or_false] at hi
      rcases hi with rfl | rfl
      · exact h.1
      · trivial
    · exact ok_held h.2 i hi
  | .row a b, h, i, hi => by
    have hi : i ∈ (held a.isP a ++ [It.s "."]) ++ held b.isPR b := hi
    rcases List.mem_append.mp hi with hi | hi
    · rcases List.mem_append.mp hi with hi | hi
      · exact ok_held h.1 i hi
      · simp only [List.mem_cons, List.not_mem_nil, or_false] at hi
        subst hi
        trivial
    · exact ok_held h.2 i hi
  | .star a, h, i, hi => by
    have hi : i ∈ held a.isPR a ++ [It.s "*"] := hi
    rcases List.mem_append.mp hi with hi | hi
    · exact ok_held (t := a) h i hi
    · simp only [List.mem_cons, List.not_mem_nil, or_false] at hi
      subst hi
      trivial
/-! ### what stands at a value -/
section
variable {C : Addr} {N : Addr → Prop} {H : Hp}
theorem at_one {v : V} {k : Str} {d : Dat} (h : At C N H v (.tup [.str k, d])) : ∃ p x, v = .ref p ∧ H p = some (.tup [.str k, x]) ∧ At C N H x d ∧ ¬ N p := by
  obtain ⟨p, rfl⟩ := h.tupV
  obtain ⟨xs, hp, l, e⟩ := h.tupE
  match xs, l with
  | [v0, v1], _ =>
    have h0 := (e 0 v0 _ rfl rfl).strV
    subst h0
    exact ⟨p, v1, rfl, hp, e 1 v1 _ rfl rfl, h.notin⟩
theorem at_two {v : V} {k : Str} {d e : Dat} (h : At C N H v (.tup [.str k, d, e])) : ∃ p x y, v = .ref p ∧ H p = some (.tup [.str k, x, y]) ∧ At C N H x d ∧ At C N H y e ∧ ¬ N p := by
  obtain ⟨p, rfl⟩ := h.tupV
  obtain ⟨xs, hp, l, f⟩ := h.tupE
  match xs, l with
  | [v0, v1, v2], _ =>
    have h0 := (f 0 v0 _ rfl rfl).strV
    subst h0
    exact ⟨p, v1, v2, rfl, hp, f 1 v1 _ rfl rfl, f 2 v2 _ rfl rfl, h.notin⟩
theorem mk_one {x : V} {k : Str} {d : Dat} {r : Addr} (al : Alc N H) (nr : H r = none) (h : At C N H x d) : At C N (upd H r (.tup [.str k, x])) (.ref r) (.tup [.str k, d]) := At.newT al nr rfl (itemsC (.str _) (items1 h))
theorem mk_two {x y : V} {k : Str} {d e : Dat} {r : Addr} (al : Alc N H) (nr : H r = none) (h : At C N H x d) (h2 : At C N H y e) : At C N (upd H r (.tup [.str k, x, y])) (.ref r) (.tup [.str k, d, e]) := At.newT al nr rfl (itemsC (.str _) (itemsC h (items1 h2)))
theorem own_ref {v : V} : ∀ {t : Tm}, At C N H v t.own → ∃ p, v = .ref p
  | .num _, h => h.tupV
  | .letter _, h => h.tupV
  | .plus _ _, h => h.tupV
  | .row _ _, h => h.tupV
  | .star _, h => h.tupV
theorem made_ref {v : V} : ∀ {t : Tm}, At C N H v t.made → ∃ p, v = .ref p
  | .num _, h => h.tupV
  | .letter _, h => h.tupV
  | .plus _ _, h => h.tupV
  | .row _ _, h => h.tupV
  | .star _, h => h.tupV
/-- the first of a term is its kind -/
theorem own_head {p : Addr} : ∀ {t : Tm}, At C N H (.ref p) t.own → ∃ xs, H p = some (.tup xs) ∧ xs[0]? = some (.str t.kind)
  | .num _, h => by obtain ⟨_, _, e, hp, _⟩ := at_one h; cases e; exact ⟨_, hp, rfl⟩
  | .letter _, h => by obtain ⟨_, _, e, hp, _⟩ := at_one h; cases e; exact ⟨_, hp, rfl⟩
  | .plus _ _, h => by obtain ⟨_, _, _, e, hp, _⟩ := at_two h; cases e; exact ⟨_, hp, rfl⟩
  | .row _ _, h => by obtain ⟨_, _, _, e, hp, _⟩ := at_two h; cases e; exact ⟨_, hp, rfl⟩
  | .star _, h => by obtain ⟨_, _, e, hp, _⟩ := at_one h; cases e; exact ⟨_, hp, rfl⟩
theorem made_head {p : Addr} : ∀ {t : Tm}, At C N H (.ref p) t.made → ∃ xs, H p = some (.tup xs) ∧ xs[0]? = some (.str t.kind)
  | .num _, h => by obtain ⟨_, _, e, hp, _⟩ := at_one h; cases e; exact ⟨_, hp, rfl⟩
  | .letter _, h => by obtain ⟨_, _, e, hp, _⟩ := at_one h; cases e; exact ⟨_, hp, rfl⟩
  | .plus _ _, h => by obtain ⟨_, _, _, e, hp, _⟩ := at_two h; cases e; exact ⟨_, hp, rfl⟩
  | .row _ _, h => by obtain ⟨_, _, _, e, hp, _⟩ := at_two h; cases e; exact ⟨_, hp, rfl⟩
  | .star _, h => by obtain ⟨_, _, e, hp, _⟩ := at_one h; cases e; exact ⟨_, hp, rfl⟩
end
theorem seqT {a b : Str} (h : a = b) : decide (V.str a = V.str b) = true := decide_eq_true (by rw [h])
theorem seqF {a b : Str} (h : ¬ a = b) : decide (V.str a = V.str b) = false := decide_eq_false fun z => h (V.str.inj z)
theorem inP (t : Tm) : inV (.str t.kind) [.str "plus"] = t.isP := by cases t <;> rfl
theorem inPR (t : Tm) : inV (.str t.kind) [.str "plus", .str "row"] = t.isPR := by cases t <;> rfl
theorem at0 {xs : List V} {x : V} (h : xs[0]? = some x) : atI xs 0 = some x := by
  have lt := (List.getElem?_eq_some_iff.mp h).1
  unfold atI ixN
  rw [if_pos (by omega), if_pos (by omega)]
  exact h
end RX

set_option Elab.async false
set_option maxRecDepth 100000
namespace RX
open PySem L2
open RQ (Bt)
abbrev sLeaf : Stmt := topS 37
theorem scLf : FnScope ["feed", "wide", "kind", "above"] ["feed", "wide"] (defScope sLeaf) := ⟨rfl, rfl, rfl, by decide +kernel, rfl, by decide +kernel, by decide +kernel⟩
abbrev sJoin : Stmt := topS 38
theorem scJo : FnScope ["feed", "one", "two"] ["feed", "one", "two"] (defScope sJoin) := ⟨rfl, rfl, rfl, by decide +kernel, rfl, by decide +kernel, by decide +kernel⟩
def spLf (C : Addr) : Sp := fun vs H Q _ => ∃ (N : Addr → Prop) (a cl : Addr) (wd : Int), vs = [.ref a, .int wd] ∧ FeedAt H a cl ∧ 0 ≤ wd ∧ wd ≤ 8 ∧ Alc N H ∧ N a ∧
  ∀ (r : Addr) (t : Tm) (H' : Hp), FeedAt H' a cl → But a H H' → H r = none → At C N H' (.ref r) t.own → t.ok → t.sz = 1 → Q (.ref r) H'
def spJo (C : Addr) : Sp := fun vs H Q _ => ∃ (N : Addr → Prop) (a cl p q : Addr) (t u : Tm), vs = [.ref a, .ref p, .ref q] ∧ FeedAt H a cl ∧ At C N H (.ref p) t.own ∧ At C N H (.ref q) u.own ∧ t.ok ∧ u.ok ∧ Alc N H ∧ N a ∧
  ∀ (r : Addr) (x : Tm) (H' : Hp), FeedAt H' a cl → But a H H' → H r = none → At C N H' (.ref r) x.own → x.ok → x.sz = t.sz + u.sz + 1 → Q (.ref r) H'
section
variable {P : Program} {w : World} {K : PySem.W.Frag} {mg : Str → Option Value} {base : Heap}
theorem sign4 (r : Int) (h0 : 0 ≤ r) (h1 : r < 4) : ∃ c : Nat, atI ("abcd" : Str).cps.toList r = some c ∧ 97 ≤ c ∧ c ≤ 100 := by
  have : r = 0 ∨ r = 1 ∨ r = 2 ∨ r = 3 := by omega
  rcases this with rfl | rfl | rfl | rfl
  · exact ⟨97, rfl, by decide, by decide⟩
  · exact ⟨98, rfl, by decide, by decide⟩
  · exact ⟨99, rfl, by decide, by decide⟩
  · exact ⟨100, rfl, by decide, by decide⟩
theorem ok_lf {C f fD fG fP : Addr} {fd dD dG dP : FuncData} (F : Fun K "_law_leaf" "_law_leaf" sLeaf f fd) (T : TxtL mg) (cDr : CalN P w K mg base "_law_draw" 1 ["feed", "limit"] spDraw fD dD) (cGr : CalN P w K mg base "_law_great" 2 ["feed", "parts"] spGreat fG dG) (cPa : CalN P w K mg base "_law_pair" 1 ["above", "below"] spPair fP dP) :
    FnOk P w K mg base CX0 3 f fd ["feed", "wide"] (spLf C) := by
  refine F.ok scLf (fun vs H Q E h => ?_) (fun cdv A outer s H vs Q E hr h => ?_)
  · obtain ⟨N, a, cl, wd, rfl, _⟩ := h
    rfl
  · obtain ⟨N, a, cl, wd, rfl, hF, h0, h1, al, na, kk⟩ := h
    have hr1 : Room 1 _ := hr.mono (by decide)
    have hr2 : Room 2 _ := hr
    refine ⟨_, pss_cons (ps_set (i := 2) scLf.nd rfl (.inl rfl) (pe_call cDr.G hr1 rfl cDr.m cDr.kp cDr.b .nil pass0 (pa_cons (pv 0) (pa_cons pe_int pa_nil))))
      (pss_cons (ps_if (pt_cmpR op_lt (pv 2) pe_int (nomark _))
        (pss_one (ps_ret (pe_tup (pa_cons pe_str (pa_cons (pe_ix ix_str pe_str (pe_call cDr.G hr1 rfl cDr.m cDr.kp cDr.b .nil pass0 (pa_cons (pv 0) (pa_cons pe_int pa_nil))) (fun _ _ => rfl)) pa_nil)))))
        pss_nil)
      (pss_cons (ps_if (pt_cmpR op_eq (pv 2) pe_int (nomark _))
        (pss_one (ps_ret (pe_tup (pa_cons pe_str (pa_cons (pe_tup (pa_cons (pe_op op_sub (pe_call cDr.G hr1 rfl cDr.m cDr.kp cDr.b .nil pass0 (pa_cons (pv 0) (pa_cons pe_int pa_nil))) pe_int) (pa_cons pe_int pa_nil))) pa_nil)))))
        pss_nil)
      (pss_cons (ps_if (pt_cmpR op_gt (pv 1) pe_int (nomark _))
        (pss_cons (ps_set (i := 3) scLf.nd rfl (.inl rfl) (pe_op RQ.op_mulH (pe_call cGr.G hr2 rfl cGr.m cGr.kp cGr.b .nil pass0 (pa_cons (pv 0) (pa_cons (pv 1) pa_nil))) (pe_op op_sub pe_int (pe_op RQ.op_mulH pe_int (pe_call cDr.G hr1 rfl cDr.m cDr.kp cDr.b .nil pass0 (pa_cons (pv 0) (pa_cons pe_int pa_nil)))))))
        (pss_one (ps_ret (pe_tup (pa_cons pe_str (pa_cons (pe_call cPa.G hr1 rfl cPa.m cPa.kp cPa.b .nil pass0 (pa_cons (pv 3) (pa_cons (pe_callB (call_max2 rfl) (by rfl) T.max (by decide +kernel) (pa_cons pe_int (pa_cons (pe_call cGr.G hr2 rfl cGr.m cGr.kp cGr.b .nil pass0 (pa_cons (pv 0) (pa_cons (pv 1) pa_nil))) pa_nil))) pa_nil))) pa_nil))))))
        pss_nil)
      (pss_one (ps_ret (pe_tup (pa_cons pe_str (pa_cons (pe_call cPa.G hr1 rfl cPa.m cPa.kp cPa.b .nil pass0 (pa_cons (pe_op op_sub (pe_call cDr.G hr1 rfl cDr.m cDr.kp cDr.b .nil pass0 (pa_cons (pv 0) (pa_cons pe_int pa_nil))) pe_int) (pa_cons (pe_op op_add pe_int (pe_call cDr.G hr1 rfl cDr.m cDr.kp cDr.b .nil pass0 (pa_cons (pv 0) (pa_cons pe_int pa_nil)))) pa_nil))) pa_nil)))))))), ?_⟩
    have bt4 : ∀ {x : Int}, Bt 5 x → Bt 140 x := fun h => h.up (by omega)
    have b1' : Bt 140 1 := show (1 : Int).natAbs < 2 ^ 140 by decide
    have give : ∀ (r : Addr) (n d : Int) (H1 H2 : Hp), H1 = H2 → FeedAt H1 a cl → But a H H1 → PairAt H1 r n d → ¬ N r → 0 < d → Nat.Coprime n.natAbs d.natAbs → Bt 140 n → Bt 140 d → (2 : Nat) ≤ sizeLine ∧ ∀ r2, H1 r2 = none → Q (.ref r2) (upd H1 r2 (.tup [.str "number", .ref r])) := fun r n d H1 H2 _ f b hR nN hd c bn bd => by
      obtain ⟨q, rfl, rfl⟩ := pr_of hd c
      refine ⟨by decide, fun r2 nr => ?_⟩
      have al1 : Alc N H1 := al.keep (Keep.but b na f.there)
      exact kk r2 (.num q) _ (f.same (Same.upd nr)) (b.trans (Same.but (Same.upd nr))) (b.free nr f) (mk_one al1 nr (at_pair hR nN)) ⟨bn, bd⟩ rfl
    have pairs : ∀ (r : Addr) (n d : Int) (H0 H1 : Hp), FeedAt H0 a cl → But a H H0 → Same H0 H1 → H0 r = none → PairAt H1 r (RT.top n d) (RT.bot n d) → 0 < d → Bt 140 n → Bt 140 d → (2 : Nat) ≤ sizeLine ∧ ∀ r2, H1 r2 = none → Q (.ref r2) (upd H1 r2 (.tup [.str "number", .ref r])) := fun r n d H0 H1 f b s nr hR hd bn bd => by
      have d0 : d ≠ 0 := by omega
      have al0 : Alc N H0 := al.keep (Keep.but b na f.there)
      exact give r _ _ H1 H1 rfl (f.same s) (b.trans (Same.but s)) hR (al0.fresh nr) (RT.bot_pos d0) (RT.cop d0) (bn.le (RT.top_le d0)) (bd.le (RT.bot_le d0))
    have md : ∀ {x : Int}, Bt 140 x → Md x := fun h => pw (by decide) h
    refine ⟨_, rfl, a, cl, 4, rfl, hF, by decide, by decide, fun kd H1 _ _ f1 b1 => ?_⟩
    refine ⟨_, rfl, _, _, rfl, rfl, _, rfl, ?_⟩
    refine ite2 (fun _ => ?_) (fun _ => ?_)
    · refine ⟨_, rfl, a, cl, 4, rfl, f1, by decide, by decide, fun x H2 x0 x1 f2 b2 => ?_⟩
      obtain ⟨c, hc, c1, c2⟩ := sign4 x x0 x1
      refine ⟨_, _, _, rfl, rfl, (by decide), hc, (by show 2 ≤ sizeLine; decide), fun r nr => ?_⟩
      have b2 := b1.trans b2
      have al2 : Alc N H2 := al.keep (Keep.but b2 na f2.there)
      exact kk r (.letter ⟨#[c]⟩) _ (f2.same (Same.upd nr)) (b2.trans (Same.but (Same.upd nr))) (b2.free nr f2) (mk_one al2 nr (.str _)) ⟨c, c1, c2, rfl⟩ rfl
    refine ⟨_, rfl, rfl, _, rfl, ?_⟩
    refine ite2 (fun _ => ?_) (fun _ => ?_)
    · refine ⟨_, rfl, a, cl, 13, rfl, f1, by decide, by decide, fun x H2 x0 x1 f2 b2 => ⟨_, _, rfl, rfl, (by show 2 ≤ sizeLine; decide), fun r nr => ?_⟩⟩
      have b2 := b1.trans b2
      have al2 : Alc N H2 := al.keep (Keep.but b2 na f2.there)
      exact give r (x - 6) 1 _ _ rfl (f2.same (Same.upd nr)) (b2.trans (Same.but (Same.upd nr))) upd_same (al2.fresh nr) (by decide) (Nat.coprime_one_right _) (bt4 (show (x - 6).natAbs < 2 ^ 5 by omega)) b1'
    refine ⟨_, rfl, _, _, rfl, rfl, _, rfl, ?_⟩
    have one : (1 : Nat) < 2 ^ 140 := by decide
    have gB : ∀ g : Int, 0 ≤ g → g < 100000 ^ wd.toNat → g.natAbs < 2 ^ 136 := fun g g0 g1 => by
      have h2 : (100000 : Nat) ^ wd.toNat ≤ 100000 ^ 8 := Nat.pow_le_pow_right (by decide) (by omega)
      have h3 : (100000 : Nat) ^ 8 < 2 ^ 136 := by decide
      have e : (100000 : Int) ^ wd.toNat = (((100000 : Nat) ^ wd.toNat : Nat) : Int) := by rw [Int.natCast_pow]; rfl
      rw [e] at g1
      omega
    refine ite2 (fun _ => ?_) (fun _ => ?_)
    · refine ⟨_, rfl, _, rfl, a, cl, wd, rfl, f1, h0, by omega, fun g H2 g0 g1 f2 b2 => ?_⟩
      refine ⟨_, rfl, a, cl, 2, rfl, f2, by decide, by decide, fun sg H3 s0 s1 f3 b3 => ?_⟩
      have gb := gB g g0 g1
      refine ⟨_, _, rfl, rfl, ⟨⟨2, by decide, show (2 : Int).natAbs < 2 ^ 2 by decide⟩, ⟨2, by decide, show sg.natAbs < 2 ^ 2 by omega⟩⟩, _, _, rfl, rfl, _, _, rfl, rfl, ⟨⟨136, by decide, gb⟩, ⟨3, by decide, show (1 - 2 * sg).natAbs < 2 ^ 3 by omega⟩⟩, ?_⟩
      have b3 := b1.trans (b2.trans b3)
      refine ⟨_, rfl, _, rfl, _, rfl, a, cl, wd, rfl, f3, h0, by omega, fun e H4 e0 e1 f4 b4 => ?_⟩
      have eb := gB e e0 e1
      have b4 := b3.trans b4
      have p2 : (2 : Nat) ^ 136 < 2 ^ 140 := by decide
      have hx : Bt 140 (g * (1 - 2 * sg)) := by
        have : sg = 0 ∨ sg = 1 := by omega
        unfold Bt
        rcases this with rfl | rfl
        · show (g * (1 - 2 * 0)).natAbs < _; omega
        · show (g * (1 - 2 * 1)).natAbs < _; omega
      have hm : 0 < (if e > 1 then e else 1) ∧ Bt 140 (if e > 1 then e else 1) := by
        unfold Bt
        split <;> omega
      generalize hM : (if e > 1 then e else 1) = m at hm
      refine ⟨_, _, rfl, ?_⟩
      rw [hM]
      refine ⟨_, _, rfl, by omega, md hm.2, fun r H5 s5 nr hR => ?_⟩
      exact pairs r _ _ H4 H5 f4 b4 s5 nr hR hm.1 hx hm.2
    · refine ⟨_, rfl, a, cl, 25, rfl, f1, by decide, by decide, fun x H2 x0 x1 f2 b2 => ⟨_, _, rfl, rfl, ?_⟩⟩
      refine ⟨_, rfl, a, cl, 12, rfl, f2, by decide, by decide, fun y H3 y0 y1 f3 b3 => ⟨_, _, rfl, rfl, ?_⟩⟩
      have b3 := b1.trans (b2.trans b3)
      have by' : Bt 140 (1 + y) := bt4 (show (1 + y).natAbs < 2 ^ 5 by omega)
      refine ⟨_, _, rfl, by omega, md by', fun r H5 s5 nr hR => ?_⟩
      exact pairs r _ _ H3 H5 f3 b3 s5 nr hR (by omega) (bt4 (show (x - 12).natAbs < 2 ^ 5 by omega)) by'
theorem ok_jo {C f fD : Addr} {fd dD : FuncData} (F : Fun K "_law_joined" "_law_joined" sJoin f fd) (cDr : CalN P w K mg base "_law_draw" 1 ["feed", "limit"] spDraw fD dD) :
    FnOk P w K mg base CX0 2 f fd ["feed", "one", "two"] (spJo C) := by
  refine F.ok scJo (fun vs H Q E h => ?_) (fun cdv A outer s H vs Q E hr h => ?_)
  · obtain ⟨N, a, cl, p, q, t, u, rfl, _⟩ := h
    rfl
  · obtain ⟨N, a, cl, p, q, t, u, rfl, hF, hp, hq, okt, oku, al, na, kk⟩ := h
    have hr1 : Room 1 _ := hr
    refine ⟨_, pss_one (ps_ret (pe_tup (pa_cons (pe_ix ix_list (pe_lst (pa_cons pe_str (pa_cons pe_str pa_nil))) (pe_call cDr.G hr1 rfl cDr.m cDr.kp cDr.b .nil pass0 (pa_cons (pv 0) (pa_cons pe_int pa_nil))) (fun _ _ => rfl)) (pa_cons (pv 1) (pa_cons (pv 2) pa_nil))))), ?_⟩
    refine ⟨(by show 2 ≤ sizeLine; decide), fun D nD => ?_⟩
    have sD := Same.upd (o := .lst [.str "plus", .str "row"]) nD
    have nea := (hF.ne_new nD).1
    refine ⟨_, rfl, a, cl, 2, rfl, hF.same sD, by decide, by decide, fun x H2 x0 x1 f2 b2 => ?_⟩
    have hD2 := b2 _ _ (upd_same (H := H) (a := D)) nea
    have b02 : But a H H2 := (Same.but sD).trans b2
    have al2 : Alc N H2 := al.keep (Keep.but b02 na f2.there)
    have k2 : Keep N H H2 := Keep.but b02 na f2.there
    have hx : x = 0 ∨ x = 1 := by omega
    rcases hx with rfl | rfl
    · refine ⟨D, _, 0, _, rfl, rfl, SqL.of hD2, rfl, _, rfl, _, rfl, (by show 3 ≤ sizeLine; decide), fun r nr => ?_⟩
      exact kk r (.plus t u) _ (f2.same (Same.upd nr)) (b02.trans (Same.but (Same.upd nr))) (b02.free nr f2) (mk_two al2 nr (hp.keep k2) (hq.keep k2)) ⟨okt, oku⟩ rfl
    · refine ⟨D, _, 1, _, rfl, rfl, SqL.of hD2, rfl, _, rfl, _, rfl, (by show 3 ≤ sizeLine; decide), fun r nr => ?_⟩
      exact kk r (.row t u) _ (f2.same (Same.upd nr)) (b02.trans (Same.but (Same.upd nr))) (b02.free nr f2) (mk_two al2 nr (hp.keep k2) (hq.keep k2)) ⟨okt, oku⟩ rfl
end
end RX

set_option Elab.async false
set_option maxRecDepth 100000
namespace RX
open PySem L2
open RQ (Bt)
abbrev sChain : Stmt := topS 40
theorem scCh : FnScope ["feed", "wide", "many", "found", "turn", "kind"] ["feed", "wide", "many"] (defScope sChain) := ⟨rfl, rfl, rfl, by decide +kernel, rfl, by decide +kernel, by decide +kernel⟩
abbrev sBush : Stmt := topS 39
theorem scBu : FnScope ["feed", "wide", "items", "turn", "at", "k"] ["feed", "wide"] (defScope sBush) := ⟨rfl, rfl, rfl, by decide +kernel, rfl, by decide +kernel, by decide +kernel⟩
/-- the address alone -/
def K1 (a : Addr) : Addr → Prop := fun b => b = a
theorem Keep.to {a : Addr} {H H' : Hp} (k : Keep (K1 a) H H') : But a H H' := fun b o h n => k.k b o h n
theorem keep_feed {a cl : Addr} {H H' : Hp} (b : But a H H') (f : FeedAt H' a cl) : Keep (K1 a) H H' := Keep.but b rfl f.there
def spCh (C : Addr) : Sp := fun vs H Q _ => ∃ (N : Addr → Prop) (a cl : Addr) (wd : Int) (m : Nat), vs = [.ref a, .int wd, .int (m : Int)] ∧ FeedAt H a cl ∧ 0 ≤ wd ∧ wd ≤ 8 ∧ m ≤ 19 ∧ Alc N H ∧ N a ∧
  ∀ (r : Addr) (t : Tm) (H' : Hp), FeedAt H' a cl → But a H H' → At C N H' (.ref r) t.own → t.ok → t.sz ≤ 59 → Q (.ref r) H'
def spBu (C : Addr) : Sp := fun vs H Q _ => ∃ (N : Addr → Prop) (a cl : Addr) (wd : Int), vs = [.ref a, .int wd] ∧ FeedAt H a cl ∧ 0 ≤ wd ∧ wd ≤ 8 ∧ Alc N H ∧ N a ∧
  ∀ (r : Addr) (t : Tm) (H' : Hp), FeedAt H' a cl → But a H H' → At C N H' (.ref r) t.own → t.ok → t.sz ≤ 59 → Q (.ref r) H'
/-! ### lists of terms -/
def szs (ts : List Tm) : Nat := (ts.map Tm.sz).sum
theorem szs_app (l m : List Tm) : szs (l ++ m) = szs l + szs m := by
  unfold szs
  rw [List.map_append, List.sum_append_nat]
theorem szs_cons (t : Tm) (l : List Tm) : szs (t :: l) = t.sz + szs l := rfl
theorem szs_set : ∀ {ts : List Tm} {j : Nat} {t u : Tm}, ts[j]? = some t → szs (ts.set j u) + t.sz = szs ts + u.sz
  | [], j, t, u, h => by simp at h
  | x :: ts, 0, t, u, h => by
    cases h
    show szs (u :: ts) + _ = _
    rw [szs_cons, szs_cons]; omega
  | x :: ts, j + 1, t, u, h => by
    have ih := szs_set (ts := ts) (j := j) (t := t) (u := u) h
    show szs (x :: ts.set j u) + _ = _
    rw [szs_cons, szs_cons]; omega
theorem szs_one {ts : List Tm} {t : Tm} (l : ts.length = 1) (h : ts[0]? = some t) : szs ts = t.sz := by
  match ts, l with
  | [x], _ => cases h; rfl
theorem szs_head : ∀ {ts : List Tm} {t : Tm}, ts[0]? = some t → t.sz + (ts.length - 1) ≤ szs ts
  | x :: ts, t, h => by
    cases h
    rw [szs_cons]
    have : ∀ l : List Tm, l.length ≤ szs l := fun l => by
      induction l with
      | nil => exact Nat.le_refl _
      | cons y l ih =>
        have := y.sz_pos
        rw [szs_cons, List.length_cons]; omega
    have := this ts
    rw [List.length_cons]; omega
theorem split2 {ts : List Tm} {j : Nat} {t u : Tm} (h : ts[j]? = some t) (k : ts[j + 1]? = some u) : szs ts = szs (ts.take j) + t.sz + u.sz + szs (ts.drop (j + 2)) := by
  have e1 : ts.drop j = t :: ts.drop (j + 1) := (List.drop_eq_getElem_cons (List.getElem?_eq_some_iff.mp h).1).trans (by rw [(List.getElem?_eq_some_iff.mp h).2])
  have e2 : ts.drop (j + 1) = u :: ts.drop (j + 2) := (List.drop_eq_getElem_cons (List.getElem?_eq_some_iff.mp k).1).trans (by rw [(List.getElem?_eq_some_iff.mp k).2])
  have e : ts = ts.take j ++ (t :: u :: ts.drop (j + 2)) := by rw [← e2, ← e1, List.take_append_drop]
  have := congrArg szs e
  rw [szs_app, szs_cons, szs_cons] at this
  omega
theorem ok_set {ts : List Tm} {j : Nat} {u : Tm} (h : ∀ t ∈ ts, t.ok) (k : u.ok) : ∀ t ∈ ts.set j u, t.ok := fun t ht => by
  rcases List.mem_or_eq_of_mem_set ht with z | z
  · exact h t z
  · rw [z]; exact k
theorem cut_take (xs : List V) (n : Nat) : cutV xs none (some (n : Int)) = xs.take n := by
  unfold cutV
  rw [show HT.sIx xs.length xs.length (some (n : Int)) = min n xs.length from HT.sIx_nat xs.length xs.length n, HT.sIx_none, List.drop_zero, Nat.sub_zero]
  rw [List.take_eq_take_iff]
  omega
theorem cut_drop (xs : List V) (n : Nat) : cutV xs (some (n : Int)) none = xs.drop n := by
  unfold cutV
  rw [show HT.sIx xs.length 0 (some (n : Int)) = min n xs.length from HT.sIx_nat xs.length 0 n, HT.sIx_none]
  by_cases h : n ≤ xs.length
  · rw [Nat.min_eq_left h]
    exact List.take_of_length_le (by rw [List.length_drop]; omega)
  · rw [Nat.min_eq_right (by omega), List.drop_of_length_le (Nat.le_refl _), List.drop_of_length_le (by omega)]
    exact List.take_nil
theorem atN {α : Type} {l : List α} {j : Nat} {c : α} {z : Int} (e : z = (j : Int)) (h : l[j]? = some c) : atI l z = some c := by
  subst e
  have lt := (List.getElem?_eq_some_iff.mp h).1
  unfold atI ixN
  rw [if_pos (by omega), if_pos (by omega)]
  exact h
/-- items of a list and the data -/
def Its (C : Addr) (N : Addr → Prop) (H : Hp) (xs : List V) (ds : List Dat) : Prop := xs.length = ds.length ∧ ∀ (i : Nat) (x : V) (d : Dat), xs[i]? = some x → ds[i]? = some d → At C N H x d
section
variable {C : Addr} {M N : Addr → Prop} {H H0 H2 : Hp} {D : Addr}
theorem Its.nil : Its C N H [] [] := ⟨rfl, items0⟩
theorem Its.cons {x : V} {d : Dat} {xs : List V} {ds : List Dat} (h : At C N H x d) (t : Its C N H xs ds) : Its C N H (x :: xs) (d :: ds) := ⟨by rw [List.length_cons, List.length_cons, t.1], itemsC h t.2⟩
theorem Its.app {xs ys : List V} {ds es : List Dat} (a : Its C N H xs ds) (b : Its C N H ys es) : Its C N H (xs ++ ys) (ds ++ es) := by
  refine ⟨by rw [List.length_append, List.length_append, a.1, b.1], fun i x d hx hd => ?_⟩
  by_cases lt : i < xs.length
  · rw [List.getElem?_append_left lt] at hx
    rw [List.getElem?_append_left (by rw [← a.1]; exact lt)] at hd
    exact a.2 i x d hx hd
  · rw [List.getElem?_append_right (by omega)] at hx
    rw [List.getElem?_append_right (by rw [← a.1]; omega), ← a.1] at hd
    exact b.2 _ x d hx hd
theorem Its.take {xs : List V} {ds : List Dat} (a : Its C N H xs ds) (n : Nat) : Its C N H (xs.take n) (ds.take n) := by
  refine ⟨by rw [List.length_take, List.length_take, a.1], fun i x d hx hd => ?_⟩
  rw [List.getElem?_take] at hx hd
  by_cases lt : i < n
  · rw [if_pos lt] at hx hd
    exact a.2 i x d hx hd
  · rw [if_neg lt] at hx; cases hx
theorem Its.drop {xs : List V} {ds : List Dat} (a : Its C N H xs ds) (n : Nat) : Its C N H (xs.drop n) (ds.drop n) := by
  refine ⟨by rw [List.length_drop, List.length_drop, a.1], fun i x d hx hd => ?_⟩
  rw [List.getElem?_drop] at hx hd
  exact a.2 _ x d hx hd
theorem Its.rev {xs : List V} {ds : List Dat} (a : Its C N H xs ds) : Its C N H xs.reverse ds.reverse := by
  refine ⟨by rw [List.length_reverse, List.length_reverse, a.1], fun i x d hx hd => ?_⟩
  have lt : i < xs.length := by
    have := (List.getElem?_eq_some_iff.mp hx).1
    rw [List.length_reverse] at this
    exact this
  rw [List.getElem?_reverse lt] at hx
  rw [List.getElem?_reverse (by rw [← a.1]; exact lt), ← a.1] at hd
  exact a.2 _ x d hx hd
theorem Its.set {xs : List V} {ds : List Dat} (a : Its C N H xs ds) {x : V} {d : Dat} (j : Nat) (h : At C N H x d) : Its C N H (xs.set j x) (ds.set j d) := by
  refine ⟨by rw [List.length_set, List.length_set, a.1], fun i y e hy he => ?_⟩
  rw [List.getElem?_set] at hy he
  by_cases e1 : j = i
  · rw [if_pos e1] at hy he
    split at hy
    · split at he
      · cases hy; cases he; exact h
      · cases he
    · cases hy
  · rw [if_neg e1] at hy he
    exact a.2 i y e hy he
theorem Its.keep {H' : Hp} {xs : List V} {ds : List Dat} (a : Its C N H xs ds) (k : Keep N H H') : Its C N H' xs ds := ⟨a.1, fun i x d hx hd => (a.2 i x d hx hd).keep k⟩
theorem Its.less {xs : List V} {ds : List Dat} (a : Its C N H xs ds) (s : ∀ b, M b → N b) : Its C M H xs ds := ⟨a.1, fun i x d hx hd => (a.2 i x d hx hd).less s⟩
theorem Its.and {xs : List V} {ds : List Dat} (a : Its C N H xs ds) (f : H D = none) : Its C (And1 N D) H xs ds := ⟨a.1, fun i x d hx hd => (a.2 i x d hx hd).and f⟩
theorem Its.get {xs : List V} {f : Tm → Dat} {ts : List Tm} (a : Its C N H xs (ts.map f)) {i : Nat} {t : Tm} (h : ts[i]? = some t) : ∃ x, xs[i]? = some x ∧ At C N H x (f t) := by
  have lt := (List.getElem?_eq_some_iff.mp h).1
  have l := a.1
  rw [List.length_map] at l
  have hx : xs[i]? = some (xs[i]'(by omega)) := List.getElem?_eq_getElem _
  exact ⟨_, hx, a.2 i _ _ hx (by rw [List.getElem?_map, h]; rfl)⟩
theorem Bld.its {ds : List Dat} (B : Bld C M N H0 D ds H2) : ∃ xs, H2 D = some (.lst xs) ∧ Its C (And1 N D) H2 xs ds := let ⟨xs, h, l, e⟩ := B.xs; ⟨xs, h, l, e⟩
/-- the list is written anew -/
theorem Bld.put {ds ds' : List Dat} {xs : List V} (B : Bld C M N H0 D ds H2) (fr : H0 D = none) (h : Its C (And1 N D) H2 xs ds') : Bld C M N H0 D ds' (upd H2 D (.lst xs)) := by
  have ku : Keep (And1 N D) H2 (upd H2 D (.lst xs)) := Keep.upd (.inr rfl)
  refine ⟨⟨xs, upd_same, h.1, fun i x d hx hd => (h.2 i x d hx hd).keep ku⟩, ⟨fun b o hb n => ?_, fun b hb => ku.a b (B.k.a b hb)⟩⟩
  rw [upd_ne (ne_of_none hb fr)]
  exact B.k.k b o hb n
theorem Bld.keep {H3 : Hp} {ds : List Dat} (B : Bld C M N H0 D ds H2) (k : Keep M H2 H3) (s : ∀ b, M b → N b) (nD : ¬ M D) : Bld C M N H0 D ds H3 := by
  obtain ⟨xs, hD, l, e⟩ := B.xs
  exact ⟨⟨xs, k.k _ _ hD nD, l, fun i x d h1 h2 => (e i x d h1 h2).keep (k.more fun b z => .inl (s b z))⟩, B.k.trans k⟩
/-- a new list of what is there -/
theorem bld_new {xs : List V} {ds : List Dat} {r : Addr} (k : Keep M H0 H2) (nr : H2 r = none) (h : Its C N H2 xs ds) : Bld C M N H0 r ds (upd H2 r (.lst xs)) := by
  have h1 : Its C (And1 N r) H2 xs ds := h.and nr
  have ku : Keep (And1 N r) H2 (upd H2 r (.lst xs)) := Keep.new nr
  exact ⟨⟨xs, upd_same, h1.1, fun i x d hx hd => (h1.2 i x d hx hd).keep ku⟩, k.trans (Keep.new nr)⟩
end
section
variable {P : Program} {w : World} {K : PySem.W.Frag} {mg : Str → Option Value} {base : Heap}
theorem ok_ch {C f fD fL fJ : Addr} {fd dD dL dJ : FuncData} (F : Fun K "_law_chain" "_law_chain" sChain f fd) (T : TxtL mg) (cDr : CalN P w K mg base "_law_draw" 1 ["feed", "limit"] spDraw fD dD) (cLf : CalN P w K mg base "_law_leaf" 3 ["feed", "wide"] (spLf C) fL dL) (cJo : CalN P w K mg base "_law_joined" 2 ["feed", "one", "two"] (spJo C) fJ dJ) :
    FnOk P w K mg base CX0 4 f fd ["feed", "wide", "many"] (spCh C) := by
  refine F.ok scCh (fun vs H Q E h => ?_) (fun cdv A outer s H vs Q E hr h => ?_)
  · obtain ⟨N, a, cl, wd, m, rfl, _⟩ := h
    rfl
  · obtain ⟨N, a, cl, wd, m, rfl, hF, w0, w1, hm, al, na, kk⟩ := h
    have hr1 : Room 1 _ := hr.mono (by decide)
    have hr2 : Room 2 _ := hr.mono (by decide)
    have hr3 : Room 3 _ := hr
    refine ⟨_, pss_cons (ps_set (i := 3) scCh.nd rfl (.inl rfl) (pe_call cLf.G hr3 rfl cLf.m cLf.kp cLf.b .nil pass0 (pa_cons (pv 0) (pa_cons (pv 1) pa_nil))))
      (pss_cons (ps_for PassesOwn.never rfl (pi_range1 (by rfl) T.range (pa_cons (pv 2) pa_nil)) (pg_name (i := 4) scCh.nd rfl (.inl rfl))
        (pss_cons (ps_set (i := 5) scCh.nd rfl (.inl rfl) (pe_call cDr.G hr1 rfl cDr.m cDr.kp cDr.b .nil pass0 (pa_cons (pv 0) (pa_cons pe_int pa_nil))))
        (pss_one (ps_if (pt_cmpR op_eq (pv 5) pe_int (nomark _))
          (pss_one (ps_set (i := 3) scCh.nd rfl (.inl rfl) (pe_tup (pa_cons pe_str (pa_cons (pv 3) pa_nil)))))
          (pss_one (ps_if (pt_cmpR op_eq (pv 5) pe_int (nomark _))
            (pss_one (ps_set (i := 3) scCh.nd rfl (.inl rfl) (pe_call cJo.G hr2 rfl cJo.m cJo.kp cJo.b .nil pass0 (pa_cons (pv 0) (pa_cons (pv 3) (pa_cons (pe_call cLf.G hr3 rfl cLf.m cLf.kp cLf.b .nil pass0 (pa_cons (pv 0) (pa_cons (pv 1) pa_nil))) pa_nil))))))
            (pss_one (ps_set (i := 3) scCh.nd rfl (.inl rfl) (pe_call cJo.G hr2 rfl cJo.m cJo.kp cJo.b .nil pass0 (pa_cons (pv 0) (pa_cons (pe_call cLf.G hr3 rfl cLf.m cLf.kp cLf.b .nil pass0 (pa_cons (pv 0) (pa_cons (pv 1) pa_nil))) (pa_cons (pv 3) pa_nil))))))))))))
      (pss_one (ps_ret (pv 3)))), ?_⟩
    have alc : ∀ {G : Hp}, But a H G → FeedAt G a cl → Alc N G := fun b f => al.keep (Keep.but b na f.there)
    refine ⟨_, rfl, _, rfl, N, a, cl, wd, rfl, hF, w0, w1, al, na, fun p t H1 f1 b1 _ hp okt st => ?_⟩
    refine ⟨_, rfl, (m : Int), rfl, by omega, by omega, for_range (n := ((m : Int)).toNat) (fun i σ G => ∃ (p : Addr) (t : Tm) (o4 o5 : Option V), σ = [some (.ref a), some (.int wd), some (.int (m : Int)), some (.ref p), o4, o5] ∧ FeedAt G a cl ∧ But a H G ∧ At C N G (.ref p) t.own ∧ t.ok ∧ t.sz ≤ 1 + 2 * i)
      ⟨p, t, none, none, rfl, f1, b1, hp, okt, by omega⟩ ?_ ?_⟩
    · rintro i σ G hi ⟨p, t, o4, o5, rfl, f1, b1, hp, okt, st⟩
      refine ⟨_, rfl, a, cl, 3, rfl, f1, by decide, by decide, fun kd G2 _ _ f2 b2 => ?_⟩
      have b02 := b1.trans b2
      have hp2 := hp.keep (Keep.but b2 na f2.there)
      have al2 := alc b02 f2
      refine ⟨_, rfl, rfl, _, rfl, ite2 (fun _ => ?_) (fun _ => ?_)⟩
      · refine ⟨_, rfl, (by show 2 ≤ sizeLine; decide), fun r nr => ?_⟩
        exact ⟨r, .star t, _, _, rfl, f2.same (Same.upd nr), b02.trans (Same.but (Same.upd nr)), mk_one al2 nr hp2, okt, by show t.sz + 1 ≤ _; omega⟩
      refine ⟨_, rfl, rfl, _, rfl, ite2 (fun _ => ?_) (fun _ => ?_)⟩
      · refine ⟨_, rfl, _, rfl, _, rfl, _, rfl, N, a, cl, wd, rfl, f2, w0, w1, al2, na, fun q u G3 f3 b3 _ hq oku su => ?_⟩
        have b03 := b02.trans b3
        refine ⟨N, a, cl, p, q, t, u, rfl, f3, hp2.keep (Keep.but b3 na f3.there), hq, okt, oku, alc b03 f3, na, fun r x G4 f4 b4 _ hx okx sx => ?_⟩
        exact ⟨r, x, _, _, rfl, f4, b03.trans b4, hx, okx, by omega⟩
      · refine ⟨_, rfl, _, rfl, _, rfl, N, a, cl, wd, rfl, f2, w0, w1, al2, na, fun q u G3 f3 b3 _ hq oku su => ?_⟩
        have b03 := b02.trans b3
        refine ⟨_, rfl, N, a, cl, q, p, u, t, rfl, f3, hq, hp2.keep (Keep.but b3 na f3.there), oku, okt, alc b03 f3, na, fun r x G4 f4 b4 _ hx okx sx => ?_⟩
        exact ⟨r, x, _, _, rfl, f4, b03.trans b4, hx, okx, by omega⟩
    · rintro σ G ⟨p, t, o4, o5, rfl, f1, b1, hp, okt, st⟩
      exact ⟨_, rfl, kk p t G f1 b1 hp okt (by omega)⟩
theorem ok_bu {C f fD fL fJ : Addr} {fd dD dL dJ : FuncData} (F : Fun K "_law_bush" "_law_bush" sBush f fd) (T : TxtL mg) (cDr : CalN P w K mg base "_law_draw" 1 ["feed", "limit"] spDraw fD dD) (cLf : CalN P w K mg base "_law_leaf" 3 ["feed", "wide"] (spLf C) fL dL) (cJo : CalN P w K mg base "_law_joined" 2 ["feed", "one", "two"] (spJo C) fJ dJ) :
    FnOk P w K mg base CX0 4 f fd ["feed", "wide"] (spBu C) := by
  refine F.ok scBu (fun vs H Q E h => ?_) (fun cdv A outer s H vs Q E hr h => ?_)
  · obtain ⟨N, a, cl, wd, rfl, _⟩ := h
    rfl
  · obtain ⟨N, a, cl, wd, rfl, hF, w0, w1, al, na, kk⟩ := h
    have hr1 : Room 1 _ := hr.mono (by decide)
    have hr2 : Room 2 _ := hr.mono (by decide)
    have hr3 : Room 3 _ := hr
    refine ⟨_, pss_cons (ps_setLc (i := 2) (own := [("k", 5)]) (g := gName 5) (tt := tYes) rfl scBu.nd rfl rfl (sw_true rfl rfl rfl (by decide +kernel)) (pi_range1 (by rfl) T.range (pa_cons (pe_op op_add pe_int (pe_call cDr.G hr1 rfl cDr.m cDr.kp cDr.b .nil pass0 (pa_cons (pv 0) (pa_cons pe_int pa_nil)))) pa_nil)) (blkOk_by (N := ["feed", "wide", "items", "turn", "at", "k"]) (sc := (defScope sBush)) (by decide +kernel)) (fun _ _ _ _ _ => (pg_name (i := 5) scBu.nd rfl (.inl rfl))) (fun _ _ _ _ _ => pts_nil) (fun _ _ _ _ _ => (pe_call cLf.G hr3 rfl cLf.m cLf.kp cLf.b .nil pass0 (pa_cons (pv 0) (pa_cons (pv 1) pa_nil)))))
      (pss_cons (ps_for PassesOwn.never rfl (pi_range1 (by rfl) T.range (pa_cons pe_int pa_nil)) (pg_name (i := 3) scBu.nd rfl (.inl rfl))
        (C8.pss_cut (ps_if (pt_cmpR op_eq (pe_call cDr.G hr1 rfl cDr.m cDr.kp cDr.b .nil pass0 (pa_cons (pv 0) (pa_cons pe_int pa_nil))) pe_int (nomark _))
          (pss_cons (ps_set (i := 4) scBu.nd rfl (.inl rfl) (pe_call cDr.G hr1 rfl cDr.m cDr.kp cDr.b .nil pass0 (pa_cons (pv 0) (pa_cons (pe_callB call_len_seq (by rfl) T.len PySem.boot_len (pa_cons (pv 2) pa_nil)) pa_nil))))
          (pss_one (ps_asg (pe_tup (pa_cons pe_str (pa_cons (pe_ix ix_list (pv 2) (pv 4) (fun _ _ => rfl)) pa_nil))) (pg_sub (pv 2) (pv 4) set_list))))
          pss_nil)
        (pss_one (ps_if (pt_cmpR op_gt (pe_callB call_len_seq (by rfl) T.len PySem.boot_len (pa_cons (pv 2) pa_nil)) pe_int (nomark _))
          (pss_cons (ps_set (i := 4) scBu.nd rfl (.inl rfl) (pe_call cDr.G hr1 rfl cDr.m cDr.kp cDr.b .nil pass0 (pa_cons (pv 0) (pa_cons (pe_op op_sub (pe_callB call_len_seq (by rfl) T.len PySem.boot_len (pa_cons (pv 2) pa_nil)) pe_int) pa_nil))))
          (pss_one (ps_set (i := 2) scBu.nd rfl (.inl rfl) (pe_op op_cat (pe_op op_cat (pe_slice sl_list (pv 2) po_none (po_some (pv 4))) (pe_lst (pa_cons (pe_call cJo.G hr2 rfl cJo.m cJo.kp cJo.b .nil pass0 (pa_cons (pv 0) (pa_cons (pe_ix ix_list (pv 2) (pv 4) (fun _ _ => rfl)) (pa_cons (pe_ix ix_list (pv 2) (pe_op op_add (pv 4) pe_int) (fun _ _ => rfl)) pa_nil)))) pa_nil))) (pe_slice sl_list (pv 2) (po_some (pe_op op_add (pv 4) pe_int)) po_none)))))
          pss_nil))))
      (pss_one (ps_ret (pe_ix ix_list (pv 2) pe_int (fun _ _ => rfl))))), ?_⟩
    have sub : ∀ b, K1 a b → N b := fun b z => by rw [z]; exact na
    refine ⟨_, rfl, a, cl, 10, rfl, hF, by decide, by decide, fun d0 H1 d00 d01 f1 b1 => ⟨_, _, rfl, rfl, ?_⟩⟩
    obtain ⟨n, en, n1, n10⟩ : ∃ n : Nat, (1 : Int) + d0 = (n : Int) ∧ 1 ≤ n ∧ n ≤ 10 := ⟨(1 + d0).toNat, by omega, by omega, by omega⟩
    have al1 : Alc N H1 := al.keep (Keep.but b1 na f1.there)
    refine ⟨_, congrArg (fun z => [V.int z]) en, by omega, by omega, fun D nD => ?_⟩
    obtain ⟨Da, Dc⟩ := f1.ne_new nD
    refine lc_it (walk_range (lo := 0) (n := n)) (fun i G => ∃ ts : List Tm, Bld C (K1 a) N H1 D (ts.map Tm.own) G ∧ FeedAt G a cl ∧ ts.length = i ∧ szs ts = i ∧ ∀ t ∈ ts, t.ok) ⟨[], bld0 nD, f1.other Da Dc, rfl, rfl, fun t h => nomatch h⟩ (fun _ _ _ _ => trivial) ?_ ?_
    · rintro i x G1 G2 hi ⟨ts, bd, f2, l2, z2, o2⟩ ⟨rfl, rfl⟩
      refine ⟨rfl, _, rfl, _, rfl, And1 N D, a, cl, wd, rfl, f2, w0, w1, bd.alc al1, .inl na, fun r t G3 f3 b3 nr hat okt st => ?_⟩
      have k3 := keep_feed b3 f3
      obtain ⟨acc, h1, h2, h3⟩ := bd.step nD k3 sub Da hat
      refine ⟨acc, h1, by rw [h2, List.length_map]; exact small1000 (by omega), ts ++ [t], ?_, f3.other Da Dc, by rw [List.length_append, l2]; rfl, by rw [szs_app, z2]; show i + (t.sz + 0) = _; omega, fun u hu => ?_⟩
      · rw [List.map_append]; exact h3
      · rcases List.mem_append.mp hu with hu | hu
        · exact o2 u hu
        · simp only [List.mem_cons, List.not_mem_nil, or_false] at hu
          rw [hu]; exact okt
    · rintro G1 ⟨ts, bd, f2, l2, z2, o2⟩
      refine ⟨9, rfl, by decide, by decide, for_range (n := 9) (fun i σ G => ∃ (D : Addr) (ts : List Tm) (o3 o4 : Option V), σ = [some (.ref a), some (.int wd), some (.ref D), o3, o4, none] ∧ FeedAt G a cl ∧ Bld C (K1 a) N H1 D (ts.map Tm.own) G ∧ H1 D = none ∧ D ≠ a ∧ D ≠ cl ∧ szs ts + ts.length ≤ 2 * n + i ∧ 1 ≤ ts.length ∧ ∀ t ∈ ts, t.ok)
        ⟨D, ts, none, none, rfl, f2, bd, nD, Da, Dc, by omega, by omega, o2⟩ ?_ ?_⟩
      · rintro i σ G hi ⟨D, ts, o3, o4, rfl, f2, bd, nD, Da, Dc, sz, l1, oks⟩
        refine ⟨fun σ' G' => ∃ (ts : List Tm) (o3 o4 : Option V), σ' = [some (.ref a), some (.int wd), some (.ref D), o3, o4, none] ∧ FeedAt G' a cl ∧ Bld C (K1 a) N H1 D (ts.map Tm.own) G' ∧ szs ts + ts.length ≤ 2 * n + i + 1 ∧ 1 ≤ ts.length ∧ ∀ t ∈ ts, t.ok, ?_, ?_⟩
        · refine ⟨_, rfl, a, cl, 3, rfl, f2, by decide, by decide, fun kd G2 _ _ f3 b3 => ⟨rfl, _, rfl, ite2 (fun _ => ?_) (fun _ => ?_)⟩⟩
          · have bd2 := bd.keep (keep_feed b3 f3) sub Da
            obtain ⟨xs, hD, hI⟩ := bd2.its
            have lx : xs.length = ts.length := by rw [hI.1, List.length_map]
            refine ⟨_, rfl, _, rfl, D, xs, rfl, .inl (SqL.of hD), a, cl, _, rfl, f3, by omega, by omega, fun at' G3 at0 at1 f4 b4 => ?_⟩
            have bd3 := bd2.keep (keep_feed b4 f4) sub Da
            have hD3 := b4 _ _ hD Da
            have hI3 : Its C (And1 N D) G3 xs (ts.map Tm.own) := hI.keep (Keep.but b4 (.inl na) f4.there)
            have hj : at'.toNat < ts.length := by omega
            obtain ⟨x, hx, hX⟩ := hI3.get (List.getElem?_eq_getElem hj)
            refine ⟨_, rfl, _, rfl, D, _, _, _, rfl, rfl, SqL.of hD3, atN (by omega) hx, (by show 2 ≤ sizeLine; decide), fun r nr => ?_⟩
            have al3 : Alc (And1 N D) G3 := bd3.alc al1
            have bd4 := bd3.keep (Keep.new (o := .tup [.str "star", x]) nr) sub Da
            have hS := mk_one (k := "star") al3 nr hX
            have s4 : Same G3 (upd G3 r (.tup [.str "star", x])) := Same.upd nr
            have hI4 := hI3.keep (Same.keep s4)
            have hD4 := s4 _ _ hD3
            have f5 := f4.same s4
            generalize upd G3 r (.tup [.str "star", x]) = G4 at *
            refine ⟨_, rfl, _, rfl, D, xs, _, at'.toNat, rfl, rfl, hD4, ixN_at (by omega) (by omega), ?_⟩
            have e : (ts.map Tm.own).set at'.toNat (Tm.star (ts[at'.toNat]'hj)).own = (ts.set at'.toNat (Tm.star (ts[at'.toNat]'hj))).map Tm.own := by rw [List.map_set]
            have hz := szs_set (u := Tm.star (ts[at'.toNat]'hj)) (List.getElem?_eq_getElem hj)
            have hz2 : (Tm.star (ts[at'.toNat]'hj)).sz = (ts[at'.toNat]'hj).sz + 1 := rfl
            refine ⟨ts.set at'.toNat (Tm.star (ts[at'.toNat]'hj)), _, _, rfl, f5.other Da Dc, ?_, by rw [List.length_set]; omega, by rw [List.length_set]; exact l1, ok_set oks (show Tm.ok (ts[at'.toNat]'hj) from oks _ (List.getElem_mem hj))⟩
            rw [← e]
            exact bd4.put nD (hI4.set _ hS)
          · exact ⟨ts, _, _, rfl, f3, bd.keep (keep_feed b3 f3) sub Da, by omega, l1, oks⟩
        rintro σ' G2 ⟨ts, o3, o4, rfl, f3, bd2, sz, l1, oks⟩
        obtain ⟨xs, hD, hI⟩ := bd2.its
        have lx : xs.length = ts.length := by rw [hI.1, List.length_map]
        refine ⟨_, rfl, D, xs, rfl, .inl (SqL.of hD), _, _, rfl, rfl, _, rfl, ite2 (fun z => ?_) (fun _ => ?_)⟩
        · have z : (1 : Int) < (xs.length : Int) := of_decide_eq_true z
          refine ⟨_, rfl, _, rfl, D, xs, rfl, .inl (SqL.of hD), _, _, rfl, rfl, a, cl, _, rfl, f3, by omega, by omega, fun at' G3 at0 at1 f4 b4 => ?_⟩
          have bd3 := bd2.keep (keep_feed b4 f4) sub Da
          have hD3 := b4 _ _ hD Da
          have hI3 : Its C (And1 N D) G3 xs (ts.map Tm.own) := hI.keep (Keep.but b4 (.inl na) f4.there)
          obtain ⟨j, rfl⟩ : ∃ j : Nat, at' = (j : Int) := ⟨at'.toNat, by omega⟩
          have hj : j < ts.length := by omega
          have hj1 : j + 1 < ts.length := by omega
          refine ⟨_, rfl, _, rfl, _, rfl, D, _, rfl, SqL.of hD3, fun p1 np1 => ?_⟩
          rw [cut_take]
          have s4 : Same G3 (upd G3 p1 (.lst (xs.take j))) := Same.upd np1
          have hp1 : (upd G3 p1 (.lst (xs.take j))) p1 = some (.lst (xs.take j)) := upd_same
          have pa := (f4.ne_new np1).1
          have bd4 := bd3.keep (Keep.new (o := .lst (xs.take j)) np1) sub Da
          have hI4 := hI3.keep (Same.keep s4)
          have hD4 := s4 _ _ hD3
          have f5 := f4.same s4
          generalize upd G3 p1 (.lst (xs.take j)) = G4 at *
          obtain ⟨x, hx, hX⟩ := hI4.get (List.getElem?_eq_getElem hj)
          obtain ⟨y, hy, hY⟩ := hI4.get (List.getElem?_eq_getElem hj1)
          obtain ⟨px, rfl⟩ := own_ref hX
          obtain ⟨py, rfl⟩ := own_ref hY
          refine ⟨_, rfl, _, rfl, _, rfl, D, _, _, _, rfl, rfl, SqL.of hD4, atN rfl hx, _, rfl, _, rfl, _, _, rfl, rfl, D, _, _, _, rfl, rfl, SqL.of hD4, atN rfl hy, And1 N D, a, cl, px, py, _, _, rfl, f5, hX, hY, oks _ (List.getElem_mem hj), oks _ (List.getElem_mem hj1), bd4.alc al1, .inl na, fun r u G5 f6 b6 _ hr oku su => ?_⟩
          have bd5 := bd4.keep (keep_feed b6 f6) sub Da
          have hD5 := b6 _ _ hD4 Da
          have hp15 := b6 _ _ hp1 pa
          have hI5 : Its C (And1 N D) G5 xs (ts.map Tm.own) := hI4.keep (Keep.but b6 (.inl na) f6.there)
          refine ⟨(by show 1 ≤ sizeLine; decide), fun q nq => ?_⟩
          have s6 : Same G5 (upd G5 q (.lst [.ref r])) := Same.upd nq
          have hq6 : (upd G5 q (.lst [.ref r])) q = some (.lst [.ref r]) := upd_same
          have bd6 := bd5.keep (Keep.new (o := .lst [.ref r]) nq) sub Da
          have hI6 := hI5.keep (Same.keep s6)
          have hr6 := hr.same s6
          have hD6 := s6 _ _ hD5
          have hp16 := s6 _ _ hp15
          have f7 := f6.same s6
          generalize upd G5 q (.lst [.ref r]) = G6 at *
          have small : ∀ k : Nat, k ≤ 100 → k ≤ sizeLine := fun k hk => Nat.le_of_lt (small1000 (by omega))
          have lt1 : (xs.take j).length ≤ 50 := by rw [List.length_take]; omega
          refine ⟨p1, q, _, _, rfl, rfl, hp16, hq6, small _ (by rw [List.length_singleton]; omega), fun r1 nr1 => ?_⟩
          have s7 : Same G6 (upd G6 r1 (.lst (xs.take j ++ [.ref r]))) := Same.upd nr1
          have hr7 : (upd G6 r1 (.lst (xs.take j ++ [.ref r]))) r1 = some (.lst (xs.take j ++ [.ref r])) := upd_same
          have bd7 := bd6.keep (Keep.new (o := .lst (xs.take j ++ [.ref r])) nr1) sub Da
          have hI7 := hI6.keep (Same.keep s7)
          have hR7 := hr6.same s7
          have hD7 := s7 _ _ hD6
          have f8 := f7.same s7
          generalize upd G6 r1 (.lst (xs.take j ++ [.ref r])) = G7 at *
          refine ⟨_, rfl, _, rfl, _, _, rfl, rfl, _, rfl, D, _, rfl, SqL.of hD7, fun p2 np2 => ?_⟩
          rw [show ((j : Int) + 2) = ((j + 2 : Nat) : Int) by omega, cut_drop]
          have s8 : Same G7 (upd G7 p2 (.lst (xs.drop (j + 2)))) := Same.upd np2
          have hp28 : (upd G7 p2 (.lst (xs.drop (j + 2)))) p2 = some (.lst (xs.drop (j + 2))) := upd_same
          have bd8 := bd7.keep (Keep.new (o := .lst (xs.drop (j + 2))) np2) sub Da
          have hI8 := hI7.keep (Same.keep s8)
          have hR8 := hR7.same s8
          have hr8 := s8 _ _ hr7
          have f9 := f8.same s8
          generalize upd G7 p2 (.lst (xs.drop (j + 2))) = G8 at *
          refine ⟨r1, p2, _, _, rfl, rfl, hr8, hp28, small _ (by rw [List.length_append, List.length_drop, List.length_singleton]; omega), fun r2 nr2 => ?_⟩
          obtain ⟨ra, rc⟩ := f9.ne_new nr2
          have hz := split2 (List.getElem?_eq_getElem hj) (List.getElem?_eq_getElem hj1)
          have hzs : szs (ts.take j ++ [u] ++ ts.drop (j + 2)) = szs ts + 1 := by
            rw [szs_app, szs_app]
            show _ + (u.sz + 0) + _ = _
            omega
          have hl : (ts.take j ++ [u] ++ ts.drop (j + 2)).length + 1 = ts.length := by
            rw [List.length_append, List.length_append, List.length_take, List.length_drop, List.length_singleton]
            omega
          refine ⟨r2, ts.take j ++ [u] ++ ts.drop (j + 2), _, _, rfl, f9.same (Same.upd nr2), ?_, bd8.k.free nr2, ra, rc, by omega, by omega, fun t ht => ?_⟩
          · have hI9 : Its C N G8 (xs.take j ++ [.ref r] ++ xs.drop (j + 2)) ((ts.take j ++ [u] ++ ts.drop (j + 2)).map Tm.own) := by
              rw [List.map_append, List.map_append, List.map_take, List.map_drop]
              exact (((hI8.take j).app (Its.cons hR8 Its.nil)).app (hI8.drop (j + 2))).less fun b z => .inl z
            exact bld_new bd8.k nr2 hI9
          · rcases List.mem_append.mp ht with ht | ht
            · rcases List.mem_append.mp ht with ht | ht
              · exact oks t (List.mem_of_mem_take ht)
              · simp only [List.mem_cons, List.not_mem_nil, or_false] at ht
                rw [ht]; exact oku
            · exact oks t (List.mem_of_mem_drop ht)
        · exact ⟨D, ts, _, _, rfl, f3, bd2, nD, Da, Dc, by omega, l1, oks⟩
      · rintro σ G ⟨D, ts, o3, o4, rfl, f2, bd, nD, Da, Dc, sz, l1, oks⟩
        obtain ⟨xs, hD, hI⟩ := bd.its
        have h0 : ts[0]? = some (ts[0]'(by omega)) := List.getElem?_eq_getElem _
        obtain ⟨x, hx, hX⟩ := hI.get h0
        obtain ⟨px, rfl⟩ := own_ref hX
        have := szs_head h0
        exact ⟨_, rfl, D, _, 0, _, rfl, rfl, SqL.of hD, atN rfl hx, kk px _ G f2 (b1.trans bd.k.to) (hX.less fun b z => .inl z) (oks _ (List.getElem_mem _)) (by omega)⟩
end
end RX

set_option Elab.async false
set_option maxRecDepth 100000
namespace RX
open PySem L2
open RQ (Bt)
abbrev sWide : Stmt := topS 41
theorem scWi : FnScope ["feed", "wide", "items", "turn", "pairs", "k", "pair"] ["feed", "wide"] (defScope sWide) := ⟨rfl, rfl, rfl, by decide +kernel, rfl, by decide +kernel, by decide +kernel⟩
abbrev sTerm : Stmt := topS 42
theorem scTe : FnScope ["feed", "wide", "kind"] ["feed"] (defScope sTerm) := ⟨rfl, rfl, rfl, by decide +kernel, rfl, by decide +kernel, by decide +kernel⟩
def rLenS (K : PySem.W.Frag) : List V → Hp → VK → Prop := fun xs H Q => ∃ p ys, xs = [.ref p] ∧ (SqL K H p ys ∨ SqT K H p ys) ∧ Q (.int ys.length) H
theorem call_len_seqK {X : Cx} : CallR X (.builtin "len") (rLenS X.K) := call_len_seq
theorem rg2 : ∀ n : Nat, n ≤ 30 → RgC 0 (n : Int) 2 ((n + 1) / 2) := by
  intro n hn
  refine ⟨by decide, by decide, ?_, ?_⟩
  · revert n; decide +kernel
  · revert n; decide +kernel
theorem cut_two {xs : List V} {k : Nat} (h : k < xs.length) : cutV xs (some (k : Int)) (some ((k + 2 : Nat) : Int)) = (xs.drop k).take 2 := by
  unfold cutV
  rw [show HT.sIx xs.length 0 (some (k : Int)) = min k xs.length from HT.sIx_nat xs.length 0 k, show HT.sIx xs.length xs.length (some ((k + 2 : Nat) : Int)) = min (k + 2) xs.length from HT.sIx_nat xs.length xs.length (k + 2)]
  rw [Nat.min_eq_left (Nat.le_of_lt h), List.take_eq_take_iff, List.length_drop]
  omega
def chunk (ts : List Tm) (i : Nat) : List Tm := (ts.drop (2 * i)).take 2
theorem chunk_two {ts : List Tm} {i : Nat} {t u : Tm} (h : ts[2 * i]? = some t) (k : ts[2 * i + 1]? = some u) : chunk ts i = [t, u] := by
  have e1 : ts.drop (2 * i) = t :: ts.drop (2 * i + 1) := (List.drop_eq_getElem_cons (List.getElem?_eq_some_iff.mp h).1).trans (by rw [(List.getElem?_eq_some_iff.mp h).2])
  have e2 : ts.drop (2 * i + 1) = u :: ts.drop (2 * i + 1 + 1) := (List.drop_eq_getElem_cons (List.getElem?_eq_some_iff.mp k).1).trans (by rw [(List.getElem?_eq_some_iff.mp k).2])
  unfold chunk
  rw [e1, e2]
  rfl
theorem chunk_len {ts : List Tm} {i : Nat} : (chunk ts i).length = min 2 (ts.length - 2 * i) := by
  unfold chunk
  rw [List.length_take, List.length_drop]
theorem iteT' {b : Bool} {p q : Prop} (h : b = true) (k : p) : if b = true then p else q := by rw [if_pos h]; exact k
theorem iteF' {b : Bool} {p q : Prop} (h : b = false) (k : q) : if b = true then p else q := by rw [if_neg (by rw [h]; exact Bool.false_ne_true)]; exact k
def halves : Nat → Nat
  | 0 => 30
  | i + 1 => (halves i + 1) / 2
theorem halves_le : ∀ i, i ≤ 5 → halves i ≤ 30 ∧ 1 ≤ halves i := by decide
def spTe (C : Addr) : Sp := fun vs H Q _ => ∃ (N : Addr → Prop) (a cl : Addr), vs = [.ref a] ∧ FeedAt H a cl ∧ Alc N H ∧ N a ∧
  ∀ (r : Addr) (t : Tm) (H' : Hp), FeedAt H' a cl → But a H H' → At C N H' (.ref r) t.own → t.ok → t.sz ≤ 59 → Q (.ref r) H'
section
variable {P : Program} {w : World} {K : PySem.W.Frag} {mg : Str → Option Value} {base : Heap}
theorem ok_wi {C f fL fJ : Addr} {fd dL dJ : FuncData} (F : Fun K "_law_wide_term" "_law_wide_term" sWide f fd) (T : TxtL mg) (cLf : CalN P w K mg base "_law_leaf" 3 ["feed", "wide"] (spLf C) fL dL) (cJo : CalN P w K mg base "_law_joined" 2 ["feed", "one", "two"] (spJo C) fJ dJ) :
    FnOk P w K mg base CX0 4 f fd ["feed", "wide"] (spBu C) := by
  refine F.ok scWi (fun vs H Q E h => ?_) (fun cdv A outer s H vs Q E hr h => ?_)
  · obtain ⟨N, a, cl, wd, rfl, _⟩ := h
    rfl
  · obtain ⟨N, a, cl, wd, rfl, hF, w0, w1, al, na, kk⟩ := h
    have hr2 : Room 2 _ := hr.mono (by decide)
    have hr3 : Room 3 _ := hr
    refine ⟨_, pss_cons (ps_set (i := 2) scWi.nd rfl (.inr rfl) (pe_lc (own := [("k", 5)]) (g := gName 5) (tt := tYes) rfl scWi.nd (pi_range1 (by rfl) T.range (pa_cons pe_int pa_nil)) (blkOk_by (N := ["feed", "wide", "items", "turn", "pairs", "k", "pair"]) (sc := (defScope sWide)) (by decide +kernel)) (fun _ _ _ _ _ => (pg_name (i := 5) scWi.nd rfl (.inl rfl))) (fun _ _ _ _ _ => pts_nil) (fun _ _ _ _ _ => (pe_call cLf.G hr3 rfl cLf.m cLf.kp cLf.b .nil pass0 (pa_cons (pv 0) (pa_cons (pv 1) pa_nil))))))
      (pss_cons (ps_for PassesOwn.never rfl (pi_range1 (by rfl) T.range (pa_cons pe_int pa_nil)) (pg_name (i := 3) scWi.nd rfl (.inl rfl))
        (pss_cons (ps_setLc (i := 4) (own := [("k", 5)]) (g := gName 5) (tt := tYes) rfl scWi.nd rfl rfl (sw_true rfl rfl rfl (by decide +kernel)) (pi_range3 (by rfl) T.range (pa_cons pe_int (pa_cons (pe_callB call_len_seq (by rfl) T.len PySem.boot_len (pa_cons (pv 2) pa_nil)) (pa_cons pe_int pa_nil)))) (blkOk_by (N := ["feed", "wide", "items", "turn", "pairs", "k", "pair"]) (sc := (defScope sWide)) (by decide +kernel)) (fun _ _ _ _ _ => (pg_name (i := 5) scWi.nd rfl (.inl rfl))) (fun _ _ _ _ _ => pts_nil) (fun _ _ _ _ _ => (pe_slice (show SlR _ (rSlL K) from sl_list) (pv 2) (po_some (pv 5)) (po_some (pe_op op_add (pv 5) pe_int)))))
        (pss_one (ps_set (i := 2) scWi.nd rfl (.inr rfl) (pe_op op_cat (pe_lc (own := [("pair", 6)]) (g := gName 6) rfl scWi.nd (pi_list (pv 4)) (blkOk_by (N := ["feed", "wide", "items", "turn", "pairs", "k", "pair"]) (sc := (defScope sWide)) (by decide +kernel)) (fun _ _ _ _ _ => (pg_name (i := 6) scWi.nd rfl (.inl rfl))) (fun _ _ _ _ _ => pts_one (pt_cmpR op_eq (pe_callB (show CallR _ (.builtin "len") (rLenS K) from call_len_seqK) (by rfl) T.len PySem.boot_len (pa_cons (pv 6) pa_nil)) pe_int (nomark _))) (fun _ _ _ _ _ => (pe_call cJo.G hr2 rfl cJo.m cJo.kp cJo.b .nil pass0 (pa_cons (pv 0) (pa_cons (pe_ix (show IxR _ (rIxL K) from ix_list) (pv 6) pe_int (fun _ _ => rfl)) (pa_cons (pe_ix (show IxR _ (rIxL K) from ix_list) (pv 6) (pe_un un_neg pe_int) (fun _ _ => rfl)) pa_nil)))))) (pe_slice sl_list (pv 2) (po_some (pe_op RQ.op_mulH (pe_op op_fdiv (pe_callB call_len_seq (by rfl) T.len PySem.boot_len (pa_cons (pv 2) pa_nil)) pe_int) pe_int)) po_none))))))
      (pss_one (ps_ret (pe_ix ix_list (pv 2) pe_int (fun _ _ => rfl))))), ?_⟩
    have sub : ∀ b, K1 a b → N b := fun b z => by rw [z]; exact na
    refine ⟨30, rfl, by decide, by decide, fun D nD => ?_⟩
    obtain ⟨Da, Dc⟩ := hF.ne_new nD
    refine lc_it (walk_range (lo := 0) (n := 30)) (fun i G => ∃ ts : List Tm, Bld C (K1 a) N H D (ts.map Tm.own) G ∧ FeedAt G a cl ∧ ts.length = i ∧ szs ts = i ∧ ∀ t ∈ ts, t.ok) ⟨[], bld0 nD, hF.other Da Dc, rfl, rfl, fun t h => nomatch h⟩ (fun _ _ _ _ => trivial) ?_ ?_
    · rintro i x G1 G2 hi ⟨ts, bd, f2, l2, z2, o2⟩ ⟨rfl, rfl⟩
      refine ⟨rfl, _, rfl, _, rfl, And1 N D, a, cl, wd, rfl, f2, w0, w1, bd.alc al, .inl na, fun r t G3 f3 b3 nr hat okt st => ?_⟩
      have k3 := keep_feed b3 f3
      obtain ⟨acc, h1, h2, h3⟩ := bd.step nD k3 sub Da hat
      refine ⟨acc, h1, by rw [h2, List.length_map]; exact small1000 (by omega), ts ++ [t], ?_, f3.other Da Dc, by rw [List.length_append, l2]; rfl, by rw [szs_app, z2]; show i + (t.sz + 0) = _; omega, fun u hu => ?_⟩
      · rw [List.map_append]; exact h3
      · rcases List.mem_append.mp hu with hu | hu
        · exact o2 u hu
        · simp only [List.mem_cons, List.not_mem_nil, or_false] at hu
          rw [hu]; exact okt
    · rintro G1 ⟨ts, bd, f2, l2, z2, o2⟩
      refine ⟨5, rfl, by decide, by decide, for_range (n := 5) (fun i σ G => ∃ (D : Addr) (ts : List Tm) (o3 o4 : Option V), σ = [some (.ref a), some (.int wd), some (.ref D), o3, o4, none, none] ∧ FeedAt G a cl ∧ Bld C (K1 a) N H D (ts.map Tm.own) G ∧ H D = none ∧ D ≠ a ∧ D ≠ cl ∧ szs ts + ts.length = 60 ∧ ts.length = halves i ∧ ∀ t ∈ ts, t.ok)
        ⟨D, ts, none, none, rfl, f2, bd, nD, Da, Dc, by omega, l2, o2⟩ ?_ ?_⟩
      · rintro i σ G hi ⟨D, ts, o3, o4, rfl, f2, bd, nD, Da, Dc, sz, lh, oks⟩
        obtain ⟨h30, h1⟩ := halves_le i (by omega)
        rw [← lh] at h30 h1
        obtain ⟨xs, hD, hI⟩ := bd.its
        have lx : xs.length = ts.length := by rw [hI.1, List.length_map]
        have alG : Alc (And1 N D) G := bd.alc al
        refine ⟨_, rfl, D, xs, rfl, .inl (SqL.of hD), 0, (xs.length : Int), 2, (xs.length + 1) / 2, rfl, rg2 _ (by omega), fun E nE => ?_⟩
        refine lc_it (walk_rangeC (lo := 0) (c := 2) (n := (xs.length + 1) / 2)) (fun j G' => Bld C Emp (And1 N D) G E ((List.range j).map fun i => .lst ((chunk ts i).map Tm.own)) G') (bld0 nE) (fun _ _ _ _ => trivial) ?_ ?_
        · rintro j x G0 G1 hj be ⟨rfl, rfl⟩
          have hD1 := be.k.same _ _ hD
          have hI1 := hI.keep (Same.keep (N := And1 N D) be.k.same)
          refine ⟨rfl, _, rfl, _, rfl, _, rfl, _, rfl, _, _, rfl, rfl, _, rfl, D, xs, rfl, SqL.of hD1, fun p np => ?_⟩
          have e2 : (0 : Int) + (j : Nat) * 2 = ((2 * j : Nat) : Int) := by omega
          rw [e2, show (((2 * j : Nat) : Int) + 2) = ((2 * j + 2 : Nat) : Int) by omega, cut_two (by omega)]
          have hc : Its C (And1 N D) G1 ((xs.drop (2 * j)).take 2) ((chunk ts j).map Tm.own) := by
            unfold chunk
            rw [List.map_take, List.map_drop]
            exact (hI1.drop _).take _
          have hp : At C (And1 N D) (upd G1 p (.lst ((xs.drop (2 * j)).take 2))) (.ref p) (.lst ((chunk ts j).map Tm.own)) := At.newL (alG.keep be.k) np hc.1 hc.2
          have pE : p ≠ E := fun e => by obtain ⟨_, hE, _⟩ := be.its; rw [e, hE] at np; cases np
          have hp' : At C (And1 (And1 N D) E) (upd G1 p (.lst ((xs.drop (2 * j)).take 2))) (.ref p) (.lst ((chunk ts j).map Tm.own)) := by
            refine At.newL (be.alc alG) np hc.1 fun i x d hx hd => ?_
            have := hI.and (D := E) nE
            have h2 := (this.keep (be.k.more (M := And1 (And1 N D) E) fun b z => z.elim))
            have hc2 : Its C (And1 (And1 N D) E) G1 ((xs.drop (2 * j)).take 2) ((chunk ts j).map Tm.own) := by
              unfold chunk
              rw [List.map_take, List.map_drop]
              exact (h2.drop _).take _
            exact hc2.2 i x d hx hd
          obtain ⟨acc, h1, h2, h3⟩ := be.step nE (Keep.new np) (fun _ z => z.elim) id hp'
          refine ⟨acc, h1, by rw [h2, List.length_map, List.length_range]; exact small1000 (by omega), ?_⟩
          rw [List.range_succ, List.map_append]
          exact h3
        · rintro G1 be
          have s1 := be.k.same
          have bd1 := bd.keep (Same.keep s1) sub Da
          have hD1 := s1 _ _ hD
          have hI1 := hI.keep (Same.keep (N := And1 N D) s1)
          have f3 := f2.same s1
          obtain ⟨es, hE, hIE⟩ := be.its
          obtain ⟨Ea, Ec⟩ := f2.ne_new nE
          have al1 : Alc (And1 (And1 N D) E) G1 := be.alc alG
          have le : es.length = (ts.length + 1) / 2 := by rw [hIE.1, List.length_map, List.length_range, lx]
          refine ⟨_, rfl, E, rfl, ⟨_, SqL.of hE⟩, fun J nJ => ?_⟩
          obtain ⟨Ja, Jc⟩ := f3.ne_new nJ
          have subE : ∀ b, K1 a b → And1 (And1 N D) E b := fun b z => .inl (.inl (sub b z))
          refine lc_it (walk_list (K := K) (a := E) (xs := es)) (fun j G' => ∃ us : List Tm, Bld C (K1 a) (And1 (And1 N D) E) G1 J (us.map Tm.own) G' ∧ FeedAt G' a cl ∧ us.length = min j (ts.length / 2) ∧ szs us + szs (ts.drop (2 * us.length)) = szs ts + us.length ∧ ∀ t ∈ us, t.ok)
            ⟨[], bld0 nJ, f3.other Ja Jc, by simp, by show 0 + szs ts = _; simp, fun t h => nomatch h⟩ (fun j G' _ h => by obtain ⟨us, bj, _⟩ := h; exact SqL.of (bj.k.k _ _ hE Ea)) ?_ ?_
          · rintro j x G2 G3 hj ⟨us, bj, f4, lu, zu, ou⟩ ⟨rfl, hx⟩
            have hx1 := hIE.2 j x (.lst ((chunk ts j).map Tm.own)) hx (by rw [List.getElem?_map, List.getElem?_range (by omega)]; rfl)
            have hx2 : At C (And1 (And1 (And1 N D) E) J) G3 x _ := bj.old nJ subE hx1
            obtain ⟨p, rfl⟩ := hx2.lstV
            obtain ⟨ps, hp, lp, ep⟩ := hx2.lstE
            rw [List.length_map, chunk_len] at lp
            refine ⟨rfl, _, rfl, p, ps, rfl, .inl (SqL.of hp), rfl, _, rfl, ?_⟩
            by_cases h2 : 2 * j + 1 < ts.length
            · have hl2 : ps.length = 2 := by omega
              refine iteT' (decide_eq_true (by rw [hl2]; rfl)) ?_
              have ht : ts[2 * j]? = some (ts[2 * j]'(by omega)) := List.getElem?_eq_getElem _
              have hu : ts[2 * j + 1]? = some (ts[2 * j + 1]'h2) := List.getElem?_eq_getElem _
              have ce := chunk_two ht hu
              obtain ⟨v0, v1, rfl⟩ : ∃ v0 v1, ps = [v0, v1] := match ps, hl2 with
                | [a, b], _ => ⟨a, b, rfl⟩
              have hv0 := ep 0 v0 (ts[2 * j]'(by omega)).own rfl (by rw [ce]; rfl)
              have hv1 := ep 1 v1 (ts[2 * j + 1]'h2).own rfl (by rw [ce]; rfl)
              obtain ⟨q0, rfl⟩ := own_ref hv0
              obtain ⟨q1, rfl⟩ := own_ref hv1
              have okt := oks _ (List.getElem_mem (show 2 * j < ts.length by omega))
              have oku := oks _ (List.getElem_mem h2)
              refine ⟨_, rfl, _, rfl, p, _, 0, _, rfl, rfl, SqL.of hp, rfl, _, rfl, _, rfl, p, _, -1, _, rfl, rfl, SqL.of hp, rfl, And1 (And1 (And1 N D) E) J, a, cl, q0, q1, _, _, rfl, f4, hv0, hv1, okt, oku, bj.alc al1, .inl (.inl (.inl na)), fun r y G4 f5 b5 _ hy oky sy => ?_⟩
              obtain ⟨acc, h1', h2', h3'⟩ := bj.step nJ (keep_feed b5 f5) subE Ja hy
              have lj : us.length = j := by rw [lu]; omega
              have hz := split2 ht hu
              have hz2 : szs ts = szs (ts.take (2 * j)) + szs (ts.drop (2 * j)) := by rw [← szs_app, List.take_append_drop]
              refine ⟨acc, h1', by rw [h2', List.length_map]; exact small1000 (by omega), us ++ [y], ?_, f5.other Ja Jc, by rw [List.length_append, List.length_singleton]; omega, ?_, fun z hz => ?_⟩
              · rw [List.map_append]; exact h3'
              · rw [szs_app, List.length_append, List.length_singleton, lj, show 2 * (j + 1) = 2 * j + 2 by omega]
                rw [lj] at zu
                show szs us + (y.sz + 0) + _ = _
                omega
              · rcases List.mem_append.mp hz with hz | hz
                · exact ou z hz
                · simp only [List.mem_cons, List.not_mem_nil, or_false] at hz
                  rw [hz]; exact oky
            · refine iteF' (decide_eq_false fun z => ?_) ⟨us, bj, f4, by omega, zu, ou⟩
              have z := V.int.inj z
              omega
          · rintro G2 ⟨us, bj, f4, lu, zu, ou⟩
            have lu2 : us.length = ts.length / 2 := by omega
            have k2 := bj.k
            have hD2 := k2.k _ _ hD1 Da
            have hI2 : Its C (And1 N D) G2 xs (ts.map Tm.own) := hI1.keep (k2.more fun b z => .inl (sub b z))
            have bd2 := bd1.keep k2 sub Da
            obtain ⟨ys, hJ, hIJ⟩ := bj.its
            have e3 : ((xs.length : Int)) / 2 * 2 = ((2 * us.length : Nat) : Int) := by omega
            have hb : RQ.CMulH ((xs.length : Int) / 2) 2 := ⟨⟨10, by decide, by
              show ((xs.length : Int) / 2).natAbs < 2 ^ 10
              omega⟩, ⟨2, by decide, show (2 : Int).natAbs < 2 ^ 2 by decide⟩⟩
            refine ⟨_, rfl, _, rfl, D, xs, rfl, .inl (SqL.of hD2), _, _, rfl, rfl, ⟨by decide, by decide⟩, _, _, rfl, rfl, hb, _, congrArg V.int e3, D, xs, rfl, SqL.of hD2, fun p2 np2 => ?_⟩
            rw [cut_drop]
            have s8 : Same G2 (upd G2 p2 (.lst (xs.drop (2 * us.length)))) := Same.upd np2
            have hp28 : (upd G2 p2 (.lst (xs.drop (2 * us.length)))) p2 = some (.lst (xs.drop (2 * us.length))) := upd_same
            have bd8 := bd2.keep (Keep.new (o := .lst (xs.drop (2 * us.length))) np2) sub Da
            have hI8 := hI2.keep (Same.keep s8)
            have hIJ8 := hIJ.keep (Same.keep s8)
            have hJ8 := s8 _ _ hJ
            have f9 := f4.same s8
            generalize upd G2 p2 (.lst (xs.drop (2 * us.length))) = G8 at *
            have ly : ys.length = us.length := by rw [hIJ.1, List.length_map]
            refine ⟨J, p2, _, _, rfl, rfl, hJ8, hp28, Nat.le_of_lt (small1000 (by rw [List.length_drop]; omega)), fun r2 nr2 => ?_⟩
            obtain ⟨ra, rc⟩ := f9.ne_new nr2
            have hl : (us ++ ts.drop (2 * us.length)).length = (ts.length + 1) / 2 := by
              rw [List.length_append, List.length_drop]
              omega
            refine ⟨r2, us ++ ts.drop (2 * us.length), _, _, rfl, f9.same (Same.upd nr2), ?_, bd8.k.free nr2, ra, rc, ?_, ?_, fun t ht => ?_⟩
            · have hI9 : Its C N G8 (ys ++ xs.drop (2 * us.length)) ((us ++ ts.drop (2 * us.length)).map Tm.own) := by
                rw [List.map_append, List.map_drop]
                exact (hIJ8.less fun b z => .inl (.inl (.inl z))).app ((hI8.drop _).less fun b z => .inl z)
              exact bld_new bd8.k nr2 hI9
            · rw [hl, szs_app]; omega
            · rw [hl, lh]; rfl
            · rcases List.mem_append.mp ht with ht | ht
              · exact ou t ht
              · exact oks t (List.mem_of_mem_drop ht)
      · rintro σ G ⟨D, ts, o3, o4, rfl, f2, bd, nD, Da, Dc, sz, lh, oks⟩
        have l1 : ts.length = 1 := lh
        obtain ⟨xs, hD, hI⟩ := bd.its
        have h0 : ts[0]? = some (ts[0]'(by omega)) := List.getElem?_eq_getElem _
        obtain ⟨x, hx, hX⟩ := hI.get h0
        obtain ⟨px, rfl⟩ := own_ref hX
        have := szs_one l1 h0
        exact ⟨_, rfl, D, _, 0, _, rfl, rfl, SqL.of hD, atN rfl hx, kk px _ G f2 bd.k.to (hX.less fun b z => .inl z) (oks _ (List.getElem_mem _)) (by omega)⟩
theorem ok_te {C f fD fC fW fB : Addr} {fd dD dC dW dB : FuncData} (F : Fun K "_law_term" "_law_term" sTerm f fd) (T : TxtL mg) (cDr : CalN P w K mg base "_law_draw" 1 ["feed", "limit"] spDraw fD dD) (cCh : CalN P w K mg base "_law_chain" 4 ["feed", "wide", "many"] (spCh C) fC dC)
    (cWi : CalN P w K mg base "_law_wide_term" 4 ["feed", "wide"] (spBu C) fW dW) (cBu : CalN P w K mg base "_law_bush" 4 ["feed", "wide"] (spBu C) fB dB) : FnOk P w K mg base CX0 5 f fd ["feed"] (spTe C) := by
  refine F.ok scTe (fun vs H Q E h => ?_) (fun cdv A outer s H vs Q E hr h => ?_)
  · obtain ⟨N, a, cl, rfl, _⟩ := h
    rfl
  · obtain ⟨N, a, cl, rfl, hF, al, na, kk⟩ := h
    have hr1 : Room 1 _ := hr.mono (by decide)
    have hr4 : Room 4 _ := hr
    refine ⟨_, pss_cons (ps_set (i := 1) scTe.nd rfl (.inl rfl) (pe_op RQ.op_mulH pe_int (pe_callTy call_int1 (by rfl) T.int (by decide +kernel) (pa_cons (pe_cmpR op_eq (pe_call cDr.G hr1 rfl cDr.m cDr.kp cDr.b .nil pass0 (pa_cons (pv 0) (pa_cons pe_int pa_nil))) pe_int (nomark _)) pa_nil))))
      (pss_cons (ps_set (i := 2) scTe.nd rfl (.inl rfl) (pe_call cDr.G hr1 rfl cDr.m cDr.kp cDr.b .nil pass0 (pa_cons (pv 0) (pa_cons pe_int pa_nil))))
      (pss_cons (ps_if (pt_cmpR op_eq (pv 2) pe_int (nomark _))
        (pss_one (ps_ret (pe_call cCh.G hr4 rfl cCh.m cCh.kp cCh.b .nil pass0 (pa_cons (pv 0) (pa_cons (pv 1) (pa_cons pe_int pa_nil))))))
        pss_nil)
      (pss_cons (ps_if (pt_cmpR op_lt (pv 2) pe_int (nomark _))
        (pss_one (ps_ret (pe_call cCh.G hr4 rfl cCh.m cCh.kp cCh.b .nil pass0 (pa_cons (pv 0) (pa_cons (pv 1) (pa_cons (pe_call cDr.G hr1 rfl cDr.m cDr.kp cDr.b .nil pass0 (pa_cons (pv 0) (pa_cons pe_int pa_nil))) pa_nil))))))
        pss_nil)
      (pss_cons (ps_if (pt_cmpR op_eq (pv 2) pe_int (nomark _))
        (pss_one (ps_ret (pe_call cWi.G hr4 rfl cWi.m cWi.kp cWi.b .nil pass0 (pa_cons (pv 0) (pa_cons (pv 1) pa_nil)))))
        pss_nil)
      (pss_one (ps_ret (pe_call cBu.G hr4 rfl cBu.m cBu.kp cBu.b .nil pass0 (pa_cons (pv 0) (pa_cons (pv 1) pa_nil))))))))), ?_⟩
    have alc : ∀ {G : Hp}, But a H G → FeedAt G a cl → Alc N G := fun b f => al.keep (Keep.but b na f.there)
    refine ⟨_, rfl, a, cl, 4, rfl, hF, by decide, by decide, fun d3 H2 _ _ f2 b2 => ?_⟩
    refine ⟨rfl, .inr ⟨_, rfl, _, _, rfl, rfl, ⟨⟨4, by decide, show (8 : Int).natAbs < 2 ^ 4 by decide⟩, ⟨3, by decide, ?_⟩⟩, ?_⟩⟩
    · show (if decide (V.int d3 = V.int 0) = true then (1 : Int) else 0).natAbs < 2 ^ 3
      split <;> decide
    obtain ⟨wd0, ewd, w0, w1⟩ : ∃ wd0 : Int, 8 * (if decide (V.int d3 = V.int 0) = true then (1 : Int) else 0) = wd0 ∧ 0 ≤ wd0 ∧ wd0 ≤ 8 := by
      refine ⟨_, rfl, ?_, ?_⟩ <;> (split <;> decide)
    show gName 1 (V.int (8 * (if decide (V.int d3 = V.int 0) = true then (1 : Int) else 0))) _ _ _
    rw [ewd]
    refine ⟨_, rfl, a, cl, 8, rfl, f2, by decide, by decide, fun kd H3 _ _ f3 b3 => ?_⟩
    have b03 := b2.trans b3
    refine ⟨_, rfl, rfl, _, rfl, ite2 (fun _ => ?_) (fun _ => ?_)⟩
    · exact ⟨_, rfl, _, rfl, N, a, cl, wd0, 19, rfl, f3, w0, w1, by decide, alc b03 f3, na, fun r t H4 f4 b4 ht okt st => kk r t H4 f4 (b03.trans b4) ht okt st⟩
    refine ⟨_, rfl, _, _, rfl, rfl, _, rfl, ite2 (fun _ => ?_) (fun _ => ?_)⟩
    · refine ⟨_, rfl, _, rfl, _, rfl, a, cl, 8, rfl, f3, by decide, by decide, fun m H4 m0 m1 f4 b4 => ?_⟩
      obtain ⟨m, rfl⟩ : ∃ j : Nat, m = (j : Int) := ⟨m.toNat, by omega⟩
      have b04 := b03.trans b4
      exact ⟨N, a, cl, wd0, m, rfl, f4, w0, w1, by omega, alc b04 f4, na, fun r t H5 f5 b5 ht okt st => kk r t H5 f5 (b04.trans b5) ht okt st⟩
    refine ⟨_, rfl, rfl, _, rfl, ite2 (fun _ => ?_) (fun _ => ?_)⟩
    · exact ⟨_, rfl, _, rfl, N, a, cl, wd0, rfl, f3, w0, w1, alc b03 f3, na, fun r t H4 f4 b4 ht okt st => kk r t H4 f4 (b03.trans b4) ht okt st⟩
    · exact ⟨_, rfl, _, rfl, N, a, cl, wd0, rfl, f3, w0, w1, alc b03 f3, na, fun r t H4 f4 b4 ht okt st => kk r t H4 f4 (b03.trans b4) ht okt st⟩
end
end RX

set_option Elab.async false
set_option maxRecDepth 100000
/-! the points of a text, its first wrong place, its tokens -/
namespace AU
open PySem
inductive Pt where
  | part | minus | zero | top | slash | bottom | done
  deriving DecidableEq
def nm : Pt → Str
  | .part => "part"
  | .minus => "minus"
  | .zero => "zero"
  | .top => "top"
  | .slash => "slash"
  | .bottom => "bottom"
  | .done => "done"
/-- the law's names -/
def ln : Pt → Str
  | .part => "part"
  | .minus => "minus"
  | .zero => "zero"
  | .top => "digits"
  | .slash => "slash"
  | .bottom => "below"
  | .done => "done"
def table : Pt → List (Str × Pt)
  | .part => [("0", .zero), ("123456789", .top), ("-", .minus), ("abcd", .done), ("(", .part)]
  | .minus => [("123456789", .top)]
  | .zero => [("/", .slash), ("+.", .part), ("*)", .done)]
  | .top => [("0123456789", .top), ("/", .slash), ("+.", .part), ("*)", .done)]
  | .slash => [("123456789", .bottom)]
  | .bottom => [("0123456789", .bottom), ("+.", .part), ("*)", .done)]
  | .done => [("+.", .part), ("*)", .done)]
def look : List (Str × Pt) → Nat → Option Pt
  | [], _ => none
  | e :: r, c => if c ∈ e.1.cps.toList then some e.2 else look r c
def step (p : Pt) (c : Nat) : Option Pt := look (table p) c
def go (p : Pt) (d c : Nat) : Option (Pt × Nat) := match step p c with
  | none => none
  | some q => if c = 40 then (if d = 18 then none else some (q, d + 1)) else if c = 41 then (if d = 0 then none else some (q, d - 1)) else some (q, d)
/-- the first wrong place, or the point and the open brackets at the end -/
def scan : Pt → Nat → Nat → List Nat → Nat ⊕ (Pt × Nat)
  | p, d, _, [] => .inr (p, d)
  | p, d, k, c :: s => match go p d c with
    | none => .inl k
    | some (q, e) => scan q e (k + 1) s
def ends : Pt → Bool
  | .zero => true
  | .top => true
  | .bottom => true
  | .done => true
  | _ => false
/-- the place at which a text is wrong -/
def bad (s : List Nat) : Option Nat := match scan .part 0 0 (s.take 400) with
  | .inl k => some k
  | .inr (p, d) => if 400 < s.length then some 400 else if ends p = true ∧ d = 0 then none else some s.length
theorem go_depth {p q : Pt} {d e c : Nat} (h : go p d c = some (q, e)) (l : d ≤ 18) : e ≤ 18 := by
  unfold go at h
  split at h
  · cases h
  · split at h
    · split at h
      · cases h
      · cases h; omega
    · split at h
      · split at h
        · cases h
        · cases h; omega
      · cases h; omega
/-- scan in two pieces: the first i signs were right -/
theorem scan_app : ∀ {s t : List Nat} {p q : Pt} {d e k : Nat}, scan p d k s = .inr (q, e) → scan p d k (s ++ t) = scan q e (k + s.length) t
  | [], t, p, q, d, e, k, h => by cases h; rfl
  | c :: s, t, p, q, d, e, k, h => by
    show (match go p d c with | none => Sum.inl k | some (q, e) => scan q e (k + 1) (s ++ t)) = _
    have h : (match go p d c with | none => Sum.inl k | some (q, e) => scan q e (k + 1) s) = .inr (q, e) := h
    cases hg : go p d c with
    | none => rw [hg] at h; cases h
    | some x =>
      obtain ⟨q1, e1⟩ := x
      rw [hg] at h
      have := scan_app (t := t) h
      show scan q1 e1 (k + 1) (s ++ t) = _
      rw [this, List.length_cons]
      congr 1
      omega
theorem scan_one {p : Pt} {d k c : Nat} {t : List Nat} : scan p d k (c :: t) = match go p d c with | none => .inl k | some (q, e) => scan q e (k + 1) t := rfl
/-- signs that belong to a number -/
def digs : Str := "-/0123456789"
def tk : List Nat → List Nat → List (List Nat)
  | [], ds => if ds = [] then [] else [ds]
  | c :: s, ds => if c ∈ digs.cps.toList then tk s (ds ++ [c]) else (if ds = [] then [] else [ds]) ++ ([c] :: tk s [])
/-- the law's way on from a point -/
def far (p : Pt) (d c : Nat) : Str := match go p d c with
  | none => ""
  | some (q, _) => ln q
end AU
namespace AU
open PySem
def tail (d c : Nat) : Str := if c = 42 ∨ (c = 41 ∧ 0 < d) then ("done" : Str) else if c = 46 ∨ c = 43 then ("part" : Str) else ""
def lawF : Pt → Nat → Nat → Str
  | .part, d, c => if c = 48 then ("zero" : Str) else if c ∈ ("123456789" : Str).cps.toList then ("digits" : Str) else if c = 45 then ("minus" : Str) else if c ∈ ("abcd" : Str).cps.toList then ("done" : Str) else if c = 40 ∧ d < 18 then ("part" : Str) else ""
  | .minus, _, c => if c ∈ ("123456789" : Str).cps.toList then ("digits" : Str) else ""
  | .slash, _, c => if c ∈ ("123456789" : Str).cps.toList then ("below" : Str) else ""
  | .top, d, c => if c ∈ ("0123456789" : Str).cps.toList then ("digits" : Str) else if c = 47 then ("slash" : Str) else tail d c
  | .zero, d, c => if c = 47 then ("slash" : Str) else tail d c
  | .bottom, d, c => if c ∈ ("0123456789" : Str).cps.toList then ("below" : Str) else tail d c
  | .done, d, c => tail d c
theorem m19 : ("123456789" : Str).cps.toList = [49, 50, 51, 52, 53, 54, 55, 56, 57] := by decide +kernel
theorem m09 : ("0123456789" : Str).cps.toList = [48, 49, 50, 51, 52, 53, 54, 55, 56, 57] := by decide +kernel
theorem mab : ("abcd" : Str).cps.toList = [97, 98, 99, 100] := by decide +kernel
theorem m0 : ("0" : Str).cps.toList = [48] := by decide +kernel
theorem mmi : ("-" : Str).cps.toList = [45] := by decide +kernel
theorem mop : ("(" : Str).cps.toList = [40] := by decide +kernel
theorem msl : ("/" : Str).cps.toList = [47] := by decide +kernel
theorem mpl : ("+." : Str).cps.toList = [43, 46] := by decide +kernel
theorem mst : ("*)" : Str).cps.toList = [42, 41] := by decide +kernel
theorem m1 {c k : Nat} : c ∈ [k] ↔ c = k := List.mem_singleton
def outS (o : Option Pt) (d c : Nat) : Str := match o with
  | none => ""
  | some q => if c = 40 then (if d = 18 then "" else ln q) else if c = 41 then (if d = 0 then "" else ln q) else ln q
theorem far_out (p : Pt) (d c : Nat) : far p d c = outS (step p c) d c := by
  unfold far go outS
  cases step p c with
  | none => rfl
  | some q =>
    by_cases h : c = 40
    · subst h
      by_cases e : d = 18
      · subst e; rfl
      · simp [e]
    · by_cases h2 : c = 41
      · subst h2
        by_cases e : d = 0
        · subst e; rfl
        · simp [e]
      · simp [h, h2]
theorem out_ln {q : Pt} {d c : Nat} (h : c ≠ 40) (h2 : c ≠ 41) : outS (some q) d c = ln q := by
  unfold outS
  simp only [if_neg h, if_neg h2]
theorem tail_out {d c : Nat} (h0 : c ≠ 40) : outS (if c ∈ ("+." : Str).cps.toList then some Pt.part else if c ∈ ("*)" : Str).cps.toList then some Pt.done else none) d c = tail d c := by
  unfold tail
  rw [mpl, mst]
  by_cases e1 : c = 43
  · subst e1; rfl
  by_cases e2 : c = 46
  · subst e2; rfl
  by_cases e3 : c = 42
  · subst e3; rfl
  by_cases e4 : c = 41
  · subst e4
    cases d with
    | zero => rfl
    | succ d => rfl
  rw [if_neg (by simp [e1, e2]), if_neg (by simp [e3, e4]), if_neg (by simp [e3, e4]), if_neg (by simp [e1, e2])]
  rfl
theorem far_eq (p : Pt) (d c : Nat) (hd : d ≤ 18) : far p d c = lawF p d c := by
  rw [far_out]
  cases p with
  | part =>
    show outS (if c ∈ ("0" : Str).cps.toList then some .zero else if c ∈ ("123456789" : Str).cps.toList then some .top else if c ∈ ("-" : Str).cps.toList then some .minus else if c ∈ ("abcd" : Str).cps.toList then some .done else if c ∈ ("(" : Str).cps.toList then some .part else none) d c =
      if c = 48 then ("zero" : Str) else if c ∈ ("123456789" : Str).cps.toList then ("digits" : Str) else if c = 45 then ("minus" : Str) else if c ∈ ("abcd" : Str).cps.toList then ("done" : Str) else if c = 40 ∧ d < 18 then ("part" : Str) else ("" : Str)
    simp only [m0, m19, mmi, mab, mop, m1]
    by_cases e0 : c = 48
    · subst e0; rfl
    rw [if_neg e0, if_neg e0]
    by_cases e1 : c ∈ [49, 50, 51, 52, 53, 54, 55, 56, 57]
    · rw [if_pos e1, if_pos e1]
      simp only [List.mem_cons, List.not_mem_nil, or_false] at e1
      exact out_ln (by omega) (by omega)
    rw [if_neg e1, if_neg e1]
    by_cases e2 : c = 45
    · subst e2; rfl
    rw [if_neg e2, if_neg e2]
    by_cases e3 : c ∈ [97, 98, 99, 100]
    · rw [if_pos e3, if_pos e3]
      simp only [List.mem_cons, List.not_mem_nil, or_false] at e3
      exact out_ln (by omega) (by omega)
    rw [if_neg e3, if_neg e3]
    by_cases e4 : c = 40
    · subst e4
      rw [if_pos rfl]
      show (if d = 18 then ("" : Str) else ln .part) = _
      by_cases e5 : d = 18
      · rw [if_pos e5, if_neg (by omega)]
      · rw [if_neg e5, if_pos ⟨rfl, by omega⟩]
        rfl
    · rw [if_neg e4, if_neg (fun z => e4 z.1)]
      rfl
  | minus =>
    show outS (if c ∈ ("123456789" : Str).cps.toList then some .top else none) d c = if c ∈ ("123456789" : Str).cps.toList then ("digits" : Str) else ("" : Str)
    rw [m19]
    by_cases e1 : c ∈ [49, 50, 51, 52, 53, 54, 55, 56, 57]
    · rw [if_pos e1, if_pos e1]
      simp only [List.mem_cons, List.not_mem_nil, or_false] at e1
      exact out_ln (by omega) (by omega)
    · rw [if_neg e1, if_neg e1]; rfl
  | slash =>
    show outS (if c ∈ ("123456789" : Str).cps.toList then some .bottom else none) d c = if c ∈ ("123456789" : Str).cps.toList then ("below" : Str) else ("" : Str)
    rw [m19]
    by_cases e1 : c ∈ [49, 50, 51, 52, 53, 54, 55, 56, 57]
    · rw [if_pos e1, if_pos e1]
      simp only [List.mem_cons, List.not_mem_nil, or_false] at e1
      exact out_ln (by omega) (by omega)
    · rw [if_neg e1, if_neg e1]; rfl
  | zero =>
    show outS (if c ∈ ("/" : Str).cps.toList then some .slash else if c ∈ ("+." : Str).cps.toList then some Pt.part else if c ∈ ("*)" : Str).cps.toList then some Pt.done else none) d c = if c = 47 then ("slash" : Str) else tail d c
    by_cases e : c = 40
    · subst e; rfl
    rw [msl]
    by_cases e1 : c = 47
    · subst e1; rfl
    rw [if_neg (by rw [m1]; exact e1), if_neg e1]
    exact tail_out e
  | top =>
    show outS (if c ∈ ("0123456789" : Str).cps.toList then some .top else if c ∈ ("/" : Str).cps.toList then some .slash else if c ∈ ("+." : Str).cps.toList then some Pt.part else if c ∈ ("*)" : Str).cps.toList then some Pt.done else none) d c = if c ∈ ("0123456789" : Str).cps.toList then ("digits" : Str) else if c = 47 then ("slash" : Str) else tail d c
    by_cases e : c = 40
    · subst e; rfl
    rw [m09, msl]
    by_cases e1 : c ∈ [48, 49, 50, 51, 52, 53, 54, 55, 56, 57]
    · rw [if_pos e1, if_pos e1]
      simp only [List.mem_cons, List.not_mem_nil, or_false] at e1
      exact out_ln (by omega) (by omega)
    rw [if_neg e1, if_neg e1]
    by_cases e2 : c = 47
    · subst e2; rfl
    rw [if_neg (by rw [m1]; exact e2), if_neg e2]
    exact tail_out e
  | bottom =>
    show outS (if c ∈ ("0123456789" : Str).cps.toList then some .bottom else if c ∈ ("+." : Str).cps.toList then some Pt.part else if c ∈ ("*)" : Str).cps.toList then some Pt.done else none) d c = if c ∈ ("0123456789" : Str).cps.toList then ("below" : Str) else tail d c
    by_cases e : c = 40
    · subst e; rfl
    rw [m09]
    by_cases e1 : c ∈ [48, 49, 50, 51, 52, 53, 54, 55, 56, 57]
    · rw [if_pos e1, if_pos e1]
      simp only [List.mem_cons, List.not_mem_nil, or_false] at e1
      exact out_ln (by omega) (by omega)
    rw [if_neg e1, if_neg e1]
    exact tail_out e
  | done =>
    show outS (if c ∈ ("+." : Str).cps.toList then some Pt.part else if c ∈ ("*)" : Str).cps.toList then some Pt.done else none) d c = tail d c
    by_cases e : c = 40
    · subst e; rfl
    exact tail_out e
theorem ln_ne (p : Pt) : ¬ ln p = "" := by cases p <;> decide +kernel
theorem far_none {p : Pt} {d c : Nat} : far p d c = "" ↔ go p d c = none := by
  unfold far
  split
  · rename_i h; exact ⟨fun _ => h, fun _ => rfl⟩
  · rename_i q e h; exact ⟨fun z => absurd z (ln_ne q), fun z => by rw [h] at z; cases z⟩
end AU

set_option Elab.async false
set_option maxRecDepth 100000
/-! enumerate of a text -/
namespace EN
open PySem PySem.Spec PyProof.Rows L2
section
variable {prog : Program} {w : World} {A : Around} {E : Value → Shared → Prop} {s : Shared}
abbrev itO (x : Str) (t : Tok) : Obj := { cls := .type (strIterType x), data := .fields #[.str x t, .int 0 0] }
abbrev enO (n : Nat) : Obj := { cls := .type "enumerate", data := .fields #[.none, .bool false, .ref n, rawInt 0, .none, .none] }
set_option maxHeartbeats 1000000 in
theorem newS (x : Str) (t : Tok) : Meets (Builtin.«enumerate.__new__» ⟨[.type "enumerate", .str x t], []⟩)
    (fun _ R s => R (.ok (.ret (.ref (s.heap.push (itO x t)).objs.size))) { s with heap := (s.heap.push (itO x t)).push (enO s.heap.objs.size) }) :=
  .of_wp fun prog w A R s z => by
    obtain ⟨hp, g, d, tk, os⟩ := s
    have sub := sub_enumerate
    have pi : ∀ {A' : Around} {E Q : Value → Shared → Prop}, Q (.ref hp.objs.size) ⟨hp.push (itO x t), g, d, tk, os⟩ → wpAny (model prog w) A' (pyIter (.str x t)) Q E ⟨hp, g, d, tk, os⟩ :=
      fun q => (begins_text x t).iter prog w _ _ ⟨hp, g, d, tk, os⟩ _ trivial q
    wp_walk using pi
    refine wpAny_stack_any fun st =>
      wpAny_pure ?_
    split
    · rename_i cc _ _ _ _ _
      cases (cc == Value.type "enumerate") <;> (wp_walk using pi) <;> exact ⟨_, rfl, z⟩
    · wp_walk using pi
      exact ⟨_, rfl, z⟩
theorem callS {x : Str} {t : Tok} {Q : Value → Shared → Prop}
    (h : ∀ h', IsEnum h' (s.heap.objs.size + 1) s.heap.objs.size 0 .none → h'.IsStrIter s.heap.objs.size (strIterType x) x t 0 → (∀ b o, s.heap.get? b = some o → h'.get? b = some o) → Q (.ref (s.heap.objs.size + 1)) { s with heap := h' }) :
    wpAny (model prog w) A (call (.type "enumerate") [.str x t]) Q E s := by
  refine callType_new F.called_enumerate (by decide) (F.typeCall_enumerate_1 _)
    (F.newCall_enumerate_1 _) (fun obj => F.args_object_init_2 obj _) F.entry_enumerate_new (newS x t) ?_
  have sz : (s.heap.push (itO x t)).objs.size = s.heap.objs.size + 1 := Heap.size_push ..
  have e1 : ((s.heap.push (itO x t)).push (enO s.heap.objs.size)).get? (s.heap.objs.size + 1) = some (enO s.heap.objs.size) := by
    rw [← sz]
    exact Heap.get?_push_size _ rfl
  have e2 := h _ e1 ⟨itO x t, Heap.get?_push_of_some _ (Heap.get?_push_size _ rfl), rfl, rfl⟩ fun b o z => Heap.get?_push_of_some _ (Heap.get?_push_of_some _ z)
  show _ ∧ _
  rw [sz]
  exact ⟨⟨_, e1, rfl⟩, e2⟩
end
/-- each place and sign of the text in a new pair -/
def IteS (x : Str) : It where
  go := fun i _ => i < x.cps.size
  yld := fun i H v H' => ∃ T c, v = .ref T ∧ H T = none ∧ H' = upd H T (.tup [.int (i : Nat), .str ⟨#[c]⟩]) ∧ x.cps[i]? = some c
  stop := fun i _ => x.cps.size ≤ i
theorem drS {prog : Program} {w : World} {A : Around} (hh : A.handled = none) (it : Addr) (x : Str) (t : Tok) : Draws prog w A it [it] x.cps.size (SignAt x) (fun i h => h.IsStrIter it (strIterType x) x t i) := Draws.text hh it x t
theorem turnS {P : Program} {w : World} {K : PySem.W.Frag} {elts : List Expr} {kk : Nat} {tpos : Pos} (x : Str) (t : Tok) (e it : Addr) :
    Turn P w K (.Tuple elts kk tpos) (IteS x) [e, it] e (fun i h => (∃ old, IsEnum h e it ((i : Nat) : Int) old) ∧ h.IsStrIter it (strIterType x) x t i ∧ e ≠ it) where
  mem := List.mem_cons_self
  obj := fun i h st b hb => by
    obtain ⟨⟨old, he⟩, ⟨o, ho, _, hd⟩, _⟩ := st
    rcases List.mem_cons.mp hb with rfl | hb
    · exact ⟨_, he, fun v q => nomatch q⟩
    · obtain rfl := List.mem_singleton.mp hb
      exact ⟨o, ho, fun v q => by rw [hd] at q; cases q⟩
  keep := fun i h h' st k => by
    obtain ⟨⟨old, he⟩, ⟨o, ho, r⟩, n⟩ := st
    have me : e ∈ [e, it] := List.mem_cons_self
    have mi : it ∈ [e, it] := List.mem_cons_of_mem _ List.mem_cons_self
    exact ⟨⟨old, k e me _ he⟩, ⟨o, k it mi o ho, r⟩, n⟩
  item := by
    intro X eP ew eK hc i pins s σ H E I hf st hg
    subst eP ew eK
    obtain ⟨⟨old, he⟩, hit, nei⟩ := st
    have le : e < s.heap.objs.size := Heap.lt_size he
    have li : it < s.heap.objs.size := let ⟨_, q, _⟩ := hit; Heap.lt_size q
    have hnd : X.A.in1.handled = none := I.ok.hd hc
    have ne2 : e ∉ [it] := fun z => nei (List.mem_singleton.mp z)
    refine wpAny_pyNext_enum_itemD (drS hnd it x t) he hit hg nei ne2 fun x' h' tk px ho st' hT sz hk => ?_
    obtain ⟨c, u, hcx, rfl⟩ := px
    refine ⟨_, rfl, wpAny_letOwnedTupleGo_enum (s := { s with heap := h', toks := tk + 1 }) ho fun h2 he2 sb => ?_⟩
    have T2 : h2.get? s.heap.objs.size = some { cls := .type "tuple", data := .seq #[.int i tk, .str ⟨#[c]⟩ u] } := (sb.2 _ (Nat.ne_of_gt le)).trans hT
    have J : Inv X pins σ (upd H s.heap.objs.size (.tup [.int (i : Nat), .str ⟨#[c]⟩])) { s with heap := h2, toks := tk + 1 } := by
      refine I.turnedNew (ch := [e, it]) (fun b ob hb q => ?_) hf (Nat.le_refl _) ⟨(by show 2 ≤ sizeLine; decide), [.int i tk, .str ⟨#[c]⟩ u], .cons ⟨_, rfl⟩ (.cons ⟨_, rfl⟩ .nil), ⟨_, T2, rfl, _, rfl⟩⟩
      have n1 : b ≠ e := fun z => hb (by rw [z]; exact List.mem_cons_self)
      have n2 : b ≠ it := fun z => hb (by rw [z]; exact List.mem_cons_of_mem _ List.mem_cons_self)
      exact (sb.2 b n1).trans (hk b ob n1 n2 q)
    refine ⟨.ref s.heap.objs.size, _, J, rfl, ⟨_, c, rfl, I.hok.fresh (Nat.le_refl _), rfl, hcx⟩, ⟨⟨.str ⟨#[c]⟩ u, ?_⟩, ?_, nei⟩, fun b hb => ?_⟩
    · rw [show ((i + 1 : Nat) : Int) = (i : Int) + 1 from rfl]
      exact he2
    · obtain ⟨o, ho', r⟩ := st'
      exact ⟨o, (sb.2 it nei.symm).trans ho', r⟩
    · have lb : b < s.heap.objs.size := by
        rcases List.mem_cons.mp hb with z | z
        · rw [z]; exact le
        · rw [List.mem_singleton.mp z]; exact li
      rw [upd_ne (Nat.ne_of_lt lb)]
      exact (hf b hb).1
  done := by
    intro X eP ew eK hc i pins s σ H E I hf st hg
    subst eP ew eK
    obtain ⟨⟨old, he⟩, hit, nei⟩ := st
    have hnd : X.A.in1.handled = none := I.ok.hd hc
    obtain ⟨f0, f1, f2, f3, f4, f5⟩ := hf it (List.mem_cons_of_mem _ List.mem_cons_self)
    have hi : x.cps[i]? = none := Array.getElem?_eq_none hg
    have dr : Draws X.prog X.w X.A.in1 it [it] i (fun _ _ => True) (fun k h => k = i ∧ h.IsStrIter it (strIterType x) x t i) := by
      have d0 := drS (prog := X.prog) (w := X.w) hnd it x t
      exact {
        live := fun k h st => d0.live i h st.2
        frame := fun k h h' st hk => ⟨st.1, d0.frame i h h' st.2 hk⟩
        item := fun k s Q E hi st hQ => absurd hi (by rw [st.1]; exact Nat.lt_irrefl _)
        done := fun s Q E st hE => by
          have st := st.2
          unfold strIterType at st
          split at st
          · exact wpAny_nextOf_ascii_end hnd st hi hE
          · exact wpAny_nextOf_wide_end hnd st hi hE }
    exact wpAny_pyNext_enum_endD dr he ⟨rfl, hit⟩ fun h' eb => ⟨rfl, I.turned (t' := s.toks) (fun b o hb q => eb b o hb q) f0 f1 f3 f4 f5⟩
  self := fun A i s Q E st h => by
    obtain ⟨⟨_, he⟩, _⟩ := st
    exact wpAny_pyIter_enum he h
def iEnumS (ta : TA) : TI := fun σ H R => ta σ H fun vs H1 => ∃ x, vs = [.str x] ∧ R (IteS x) H1
theorem pi_enumS {X : Cx} {e : Expr} {ta : TA} {p pos tpos : Pos} {elts : List Expr} {kk : Nat} (hg : Gl X "enumerate") (hm : X.mg "enumerate" = none) (ha : PA X [e] ta) (hs : starEach [e] X.env = [(false, eval e X.env)] := by rfl) :
    PI X (.Tuple elts kk tpos) (.Call (.Name "enumerate" p) [e] [] pos) (iEnumS ta) := by
  constructor
  intro pins s σ H R I h
  refine Call_ (ld_blt I hg hm boot_enumerate (PyProof.Rows.callWith_type1 (thn (ha.run pos pins s σ H _ I h) fun us s1 z => ?_) hs rfl))
  obtain ⟨vs, H1, I1, r1, x, rfl, q⟩ := z
  obtain ⟨u, rfl, t, rfl⟩ := vals1 r1
  refine callS fun h' he hit hk => wpAny_pyIter_enum he ?_
  have fp : ∀ b ∈ [s1.heap.objs.size + 1, s1.heap.objs.size], FpOk X pins H1 b := fun b hb => by
    have lb : s1.heap.objs.size ≤ b := by
      rcases List.mem_cons.mp hb with z | z
      · rw [z]; exact Nat.le_succ _
      · rw [List.mem_singleton.mp z]; exact Nat.le_refl _
    exact I1.fpOk lb (I1.hok.fresh lb)
  exact ⟨_, _, _, _, H1, rfl, I1.kept (t' := s1.toks) hk, turnS x t _ _, ⟨⟨.none, he⟩, hit, Nat.succ_ne_self _⟩, fp, q⟩
theorem walk_enumS {x : Str} : Walk (IteS x) x.cps.size (fun _ => True) (fun i H v H' => ∃ T c, v = .ref T ∧ H T = none ∧ H' = upd H T (.tup [.int (i : Nat), .str ⟨#[c]⟩]) ∧ x.cps[i]? = some c) :=
  ⟨fun _ _ hi _ => hi, fun _ _ => Nat.le_refl _, fun _ _ _ _ _ _ y => y⟩
end EN

set_option Elab.async false
set_option maxRecDepth 600000
namespace RX
open PySem L2 AU
abbrev sNx : Stmt := topS 23
theorem scNx : FnScope ["point", "sign", "signs", "following"] ["point", "sign"] (defScope sNx) := ⟨rfl, rfl, rfl, by decide +kernel, rfl, by decide +kernel, by decide +kernel⟩
abbrev sWp : Stmt := topS 22
theorem scWp : FnScope ["text", "point", "depth", "at", "sign"] ["text"] (defScope sWp) := ⟨rfl, rfl, rfl, by decide +kernel, rfl, by decide +kernel, by decide +kernel⟩
abbrev sFo : Stmt := topS 45
theorem scFo : FnScope ["state", "sign", "opened"] ["state", "sign", "opened"] (defScope sFo) := ⟨rfl, rfl, rfl, by decide +kernel, rfl, by decide +kernel, by decide +kernel⟩
abbrev sPl : Stmt := topS 46
theorem scPl : FnScope ["told", "state", "opened", "k", "sign"] ["told"] (defScope sPl) := ⟨rfl, rfl, rfl, by decide +kernel, rfl, by decide +kernel, by decide +kernel⟩
def TupK (K : PySem.W.Frag) (a : Addr) (xs : List V) : Prop := ∃ (o : Obj) (its : Array Value) (n : Nat), K.lookup a = some o ∧ o.cls = .type "tuple" ∧ o.data = .seq its n ∧ its.size ≤ sizeLine ∧ Vals xs its.toList
theorem TupK.t {K : PySem.W.Frag} {H : Hp} {a : Addr} {xs : List V} (h : TupK K a xs) : SqT K H a xs := .inr h
/-- the table of the points, as it stands at PO -/
structure Pts (K : PySem.W.Frag) (w : World) (PO : Addr) : Prop where
  h : ∀ p, ∃ (a : Addr) (rs : List Addr), KDct K w PO (nm p) (.ref a) ∧ TupK K a (rs.map V.ref) ∧ rs.length = (table p).length ∧ ∀ (i : Nat) (r : Addr) (e : Str × Pt), rs[i]? = some r → (table p)[i]? = some e → TupK K r [.str e.1, .str (nm e.2)]
def opt : Option Pt → V
  | none => .non
  | some p => .str (nm p)
abbrev sg (c : Nat) : Str := ⟨#[c]⟩
def spNx : Sp := fun vs H Q _ => ∃ (p : Pt) (c : Nat), vs = [.str (nm p), .str (sg c)] ∧ Q (opt (step p c)) H
def spFo : Sp := fun vs H Q _ => ∃ (p : Pt) (d c : Nat), vs = [.str (ln p), .str (sg c), .int (d : Int)] ∧ d ≤ 18 ∧ ∀ H', Same H H' → Q (.str (far p d c)) H'
def whereV : Option Nat → V
  | none => .non
  | some k => .int (k : Int)
def spWp : Sp := fun vs H Q _ => ∃ s : Str, vs = [.str s] ∧ s.length ≤ 60000 ∧ ∀ H', Same H H' → Q (whereV (bad (cl s))) H'
def whereI : Option Nat → Int
  | none => -1
  | some k => k
def spPl : Sp := fun vs H Q _ => ∃ s : Str, vs = [.str s] ∧ s.length ≤ 60000 ∧ ∀ H', Same H H' → Q (.int (whereI (bad (cl s)))) H'
theorem look_drop {l : List (Str × Pt)} {i c : Nat} {e : Str × Pt} (h : l[i]? = some e) : look (l.drop i) c = if c ∈ e.1.cps.toList then some e.2 else look (l.drop (i + 1)) c := by
  have e1 : l.drop i = e :: l.drop (i + 1) := (List.drop_eq_getElem_cons (List.getElem?_eq_some_iff.mp h).1).trans (by rw [(List.getElem?_eq_some_iff.mp h).2])
  rw [e1]
  rfl
section
variable {P : Program} {w : World} {K : PySem.W.Frag} {mg : Str → Option Value} {base : Heap}
theorem ok_nx {f PO : Addr} {fd : FuncData} (F : Fun K "_next_point" "_next_point" sNx f fd) (mPO : mg "POINTS" = some (.ref PO)) (pts : Pts K w PO) : FnOk P w K mg base CX0 1 f fd ["point", "sign"] spNx := by
  refine F.ok scNx (fun vs H Q E h => ?_) (fun cdv A outer s H vs Q E hr h => ?_)
  · obtain ⟨p, c, rfl, _⟩ := h
    rfl
  · obtain ⟨p, c, rfl, k⟩ := h
    refine ⟨_, pss_cons (ps_for PassesOwn.never rfl (pi_tup (pe_ix ix_kdict (pe_glob (v := .ref PO) (by rfl) mPO rfl) (pv 0) (fun _ _ => rfl))) (pg_tup rfl (pgs_cons (pg_name (i := 2) scNx.nd rfl (.inl rfl)) (pgs_cons (pg_name (i := 3) scNx.nd rfl (.inl rfl)) pgs_nil)))
        (pss_one (ps_if (pt_cmpR op_in_sign (pv 1) (pv 2) (by rfl))
          (pss_one (ps_ret (pv 3)))
          pss_nil)))
      (pss_one (ps_ret pe_non)), ?_⟩
    obtain ⟨a, rs, hk, ht, lr, he⟩ := pts.h p
    refine ⟨_, rfl, PO, _, _, rfl, rfl, hk, a, rfl, ⟨_, ht.t⟩, for_it (walk_tup (K := K) (a := a) (xs := rs.map V.ref)) (fun i σ G => ∃ o2 o3, σ = [some (.str (nm p)), some (.str (sg c)), o2, o3] ∧ G = H ∧ step p c = look ((table p).drop i) c) ⟨none, none, rfl, rfl, rfl⟩ (fun i σ G _ h => by obtain ⟨_, _, _, rfl, _⟩ := h; exact ht.t) ?_ ?_⟩
    · rintro i x σ G G2 hi ⟨o2, o3, rfl, rfl, hl⟩ ⟨rfl, hx⟩
      rw [List.length_map] at hi
      have hr' : rs[i]? = some rs[i] := List.getElem?_eq_getElem hi
      rw [List.getElem?_map, hr'] at hx
      obtain rfl := Option.some.inj hx
      have hi2 : i < (table p).length := by omega
      have hte : (table p)[i]? = some ((table p)[i]'hi2) := List.getElem?_eq_getElem hi2
      have tk := he i _ _ hr' hte
      rw [look_drop hte] at hl
      generalize (table p)[i]'hi2 = e at *
      refine ⟨_, _, rfl, tk.t, rfl, _, _, rfl, _, _, rfl, rfl, ?_⟩
      refine ⟨_, rfl, _, rfl, c, e.1, rfl, rfl, _, rfl, ?_⟩
      by_cases hc : c ∈ e.1.cps.toList
      · rw [if_pos hc] at hl
        rw [hl] at k
        refine iteT' (decide_eq_true hc) ?_
        exact ⟨_, rfl, k⟩
      · rw [if_neg hc] at hl
        exact iteF' (decide_eq_false hc) ⟨_, _, rfl, rfl, hl⟩
    · rintro σ G ⟨o2, o3, rfl, rfl, hl⟩
      rw [List.length_map, lr, List.drop_of_length_le (Nat.le_refl _)] at hl
      rw [hl] at k
      exact k
theorem sgE (c k : Nat) : decide (V.str (sg c) = V.str (sg k)) = decide (c = k) := by
  by_cases h : c = k
  · rw [h, decide_eq_true rfl, decide_eq_true rfl]
  · rw [decide_eq_false h, decide_eq_false fun z => h (by
      have := congrArg (fun s : Str => s.cps.toList) (V.str.inj z)
      exact List.singleton_inj.mp this)]
theorem cl_at {s : Str} {i c : Nat} (h : s.cps[i]? = some c) : (cl s)[i]? = some c := by unfold cl; rw [Array.getElem?_toList]; exact h
/-- the signs so far -/
structure Sofar (s : List Nat) (i : Nat) (p : Pt) (d : Nat) : Prop where
  e : scan .part 0 0 (s.take i) = .inr (p, d)
  d : d ≤ 18
theorem Sofar.next {s : List Nat} {i : Nat} {p : Pt} {d c : Nat} (h : Sofar s i p d) (hc : s[i]? = some c) : (∀ q e, go p d c = some (q, e) → Sofar s (i + 1) q e) ∧ (go p d c = none → ∀ j, i < j → scan .part 0 0 (s.take j) = .inl i) := by
  have li : i < s.length := (List.getElem?_eq_some_iff.mp hc).1
  have l1 : (s.take i).length = i := by rw [List.length_take]; omega
  refine ⟨fun q e hg => ⟨?_, go_depth hg h.d⟩, fun hg j hj => ?_⟩
  · rw [List.take_succ, hc]
    show scan .part 0 0 (s.take i ++ [c]) = _
    rw [scan_app h.e, scan_one, hg]
    rfl
  · have e : s.take j = s.take i ++ (c :: (s.take j).drop (i + 1)) := by
      have e1 : s.take i = (s.take j).take i := by rw [List.take_take, Nat.min_eq_left (Nat.le_of_lt hj)]
      have e2 : (s.take j)[i]? = some c := by rw [List.getElem?_take, if_pos hj]; exact hc
      have e3 : (s.take j).drop i = c :: (s.take j).drop (i + 1) := (List.drop_eq_getElem_cons (List.getElem?_eq_some_iff.mp e2).1).trans (by rw [(List.getElem?_eq_some_iff.mp e2).2])
      rw [e1, ← e3, List.take_append_drop]
    rw [e, scan_app h.e, scan_one, hg, l1]
    show Sum.inl (0 + i) = _
    rw [Nat.zero_add]
theorem bad_at {s : List Nat} {i : Nat} (h : ∀ j, i < j → scan .part 0 0 (s.take j) = .inl i) (l : i < 400) : bad s = some i := by
  unfold bad
  rw [h 400 l]
theorem bad_far {s : List Nat} {p : Pt} {d : Nat} (h : Sofar s 400 p d) (l : 400 < s.length) : bad s = some 400 := by
  unfold bad
  rw [h.e]
  exact if_pos l
theorem bad_end {s : List Nat} {p : Pt} {d : Nat} (h : Sofar s s.length p d) (l : s.length ≤ 400) : bad s = if ends p = true ∧ d = 0 then none else some s.length := by
  unfold bad
  have e : s.take 400 = s.take s.length := by rw [List.take_of_length_le l, List.take_of_length_le (Nat.le_refl _)]
  rw [e, h.e]
  exact if_neg (by omega)
end
end RX

set_option Elab.async false
set_option maxRecDepth 100000
namespace RX
open PySem L2 AU
theorem cl_cut (s : Str) (n : Nat) : cl (cutS s none (some (n : Int))) = (cl s).take n := by
  unfold cutS cl
  rw [show HT.sIx s.length s.length (some (n : Int)) = min n s.length from HT.sIx_nat s.length s.length n, HT.sIx_none, List.toList_toArray, List.drop_zero, Nat.sub_zero, List.take_eq_take_iff]
  have : s.cps.toList.length = s.length := rfl
  omega
theorem in_ends (p : Pt) : inV (.str (nm p)) [.str "zero", .str "top", .str "bottom", .str "done"] = ends p := by cases p <;> rfl
theorem e40 : ("(" : Str) = sg 40 := by decide +kernel
theorem e41 : (")" : Str) = sg 41 := by decide +kernel
theorem dintN (i j : Int) : decide (V.int i = V.int j) = decide (i = j) := by
  by_cases h : i = j
  · rw [h, decide_eq_true rfl, decide_eq_true rfl]
  · rw [decide_eq_false h, decide_eq_false fun z => h (by injection z)]
theorem go_none {p : Pt} {d c : Nat} (h : step p c = none) : go p d c = none := by
  unfold go
  rw [h]
section
variable {P : Program} {w : World} {K : PySem.W.Frag} {mg : Str → Option Value} {base : Heap}
theorem ok_wp {tLO tDE : Tok} {f fN EA : Addr} {fd dN : FuncData} (F : Fun K "_wrong_place" "_wrong_place" sWp f fd) (T : TxtL mg) (mEnu : mg "enumerate" = none) (mLO : mg "LONGEST" = some (.int 400 tLO)) (mDE : mg "DEEPEST" = some (.int 18 tDE)) (mEN : mg "ENDS" = some (.ref EA)) (tEN : TupK K EA [.str "zero", .str "top", .str "bottom", .str "done"])
    (cNx : CalN P w K mg base "_next_point" 1 ["point", "sign"] spNx fN dN) : FnOk P w K mg base CX0 2 f fd ["text"] spWp := by
  refine F.ok scWp (fun vs H Q E h => ?_) (fun cdv A outer s H vs Q E hr h => ?_)
  · obtain ⟨s, rfl, _⟩ := h
    rfl
  · obtain ⟨s, rfl, ls, k⟩ := h
    have hr1 : Room 1 _ := hr
    refine ⟨_, pss_cons (ps_set (i := 1) scWp.nd rfl (.inl rfl) pe_str)
      (pss_cons (ps_set (i := 2) scWp.nd rfl (.inl rfl) pe_int)
      (pss_cons (ps_for PassesOwn.never rfl (EN.pi_enumS (by rfl) mEnu (pa_cons (pe_slice sl_str (pv 0) po_none (po_some (pe_glob (v := .int 400) (by rfl) mLO ⟨_, rfl⟩))) pa_nil)) (pg_tup rfl (pgs_cons (pg_name (i := 3) scWp.nd rfl (.inl rfl)) (pgs_cons (pg_name (i := 4) scWp.nd rfl (.inl rfl)) pgs_nil)))
        (pss_cons (ps_set (i := 1) scWp.nd rfl (.inl rfl) (pe_call cNx.G hr1 rfl cNx.m cNx.kp cNx.b .nil pass0 (pa_cons (pv 1) (pa_cons (pv 4) pa_nil))))
        (C8.pss_cut (ps_if (pt_cmpR op_eq (pv 4) pe_str (nomark _))
          (pss_one (ps_aug (i := 2) scWp.nd rfl (.inl rfl) pe_int iop_add))
          pss_nil)
        (C8.pss_cut (ps_if (pt_cmpR op_eq (pv 4) pe_str (nomark _))
          (pss_one (ps_aug (i := 2) scWp.nd rfl (.inl rfl) pe_int iop_sub))
          pss_nil)
        (pss_one (ps_if (PW.pt (pw_or (pt_cmpR op_isN1 (pv 1) pe_non (nomark _)) (pw_or (pt_cmpR op_lt (pv 2) pe_int (nomark _)) (pw_or1 (pt_cmpR op_gt (pv 2) (pe_glob (v := .int 18) (by rfl) mDE ⟨_, rfl⟩) (nomark _))))))
          (pss_one (ps_ret (pv 3)))
          pss_nil))))))
      (pss_cons (ps_if (pt_cmpR op_gt (pe_callB call_len_str (by rfl) T.len PySem.boot_len (pa_cons (pv 0) pa_nil)) (pe_glob (v := .int 400) (by rfl) mLO ⟨_, rfl⟩) (nomark _))
        (pss_one (ps_ret (pe_glob (v := .int 400) (by rfl) mLO ⟨_, rfl⟩)))
        pss_nil)
      (pss_one (ps_ret (pe_ifExp (PW.pt (pw_and (pt_cmpR op_in_seq (pv 1) (pe_glob (v := .ref EA) (by rfl) mEN rfl) (by rfl)) (pw_and1 (pt_cmpR op_eq (pv 2) pe_int (nomark _))))) pe_non (pe_callB call_len_str (by rfl) T.len PySem.boot_len (pa_cons (pv 0) pa_nil)))))))), ?_⟩
    have lz : s.length ≤ sizeLine := Nat.le_trans ls (by decide)
    have hcut := cl_cut s 400
    have lcut : (cutS s none (some (400 : Int))).cps.size = min 400 (cl s).length := by
      have := congrArg List.length hcut
      rw [List.length_take] at this
      exact this
    refine ⟨_, rfl, _, rfl, s, rfl, lz, _, rfl, for_it (EN.walk_enumS (x := cutS s none (some (400 : Int)))) (fun i σ G => ∃ (p : Pt) (d : Nat) (o3 o4 : Option V), σ = [some (.str s), some (.str (nm p)), some (.int (d : Int)), o3, o4] ∧ Same H G ∧ Sofar (cl s) i p d)
      ⟨.part, 0, none, none, rfl, Same.refl _, ⟨rfl, by decide⟩⟩ (fun _ _ _ _ _ => trivial) ?_ ?_⟩
    · rintro i x σ G G2 hi ⟨p, d, o3, o4, rfl, sG, sf⟩ ⟨T', c, rfl, nT, rfl, hc⟩
      have hc1 : (cl (cutS s none (some (400 : Int))))[i]? = some c := cl_at hc
      rw [show (400 : Int) = ((400 : Nat) : Int) from rfl, hcut, List.getElem?_take, if_pos (by rw [lcut] at hi; omega)] at hc1
      have i4 : i < 400 := by rw [lcut] at hi; omega
      obtain ⟨nx, nn⟩ := sf.next hc1
      have sG2 : Same H (upd G T' (.tup [.int (i : Nat), .str (sg c)])) := sG.trans (Same.upd nT)
      refine ⟨T', _, rfl, SqT.of upd_same, rfl, _, _, rfl, _, _, rfl, rfl, ?_⟩
      generalize upd G T' (.tup [.int (i : Nat), .str (sg c)]) = G2 at *
      refine ⟨_, rfl, _, rfl, p, c, rfl, ?_⟩
      refine ⟨fun σ' G' => σ' = [some (.str s), some (opt (step p c)), some (.int ((d : Int) + if c = 40 then 1 else 0)), some (.int (i : Int)), some (.str (sg c))] ∧ G' = G2, ?_, ?_⟩
      · refine ⟨_, rfl, rfl, _, rfl, ?_⟩
        rw [show Str.ofString "(" = sg 40 from e40, sgE]
        by_cases h : c = 40
        · refine iteT' (decide_eq_true h) ?_
          exact ⟨_, rfl, _, _, rfl, rfl, by rw [if_pos h]; rfl, rfl⟩
        · refine iteF' (decide_eq_false h) ?_
          exact ⟨by rw [if_neg h, Int.add_zero]; rfl, rfl⟩
      rintro σ' G' ⟨rfl, rfl⟩
      refine ⟨fun σ' G'' => σ' = [some (.str s), some (opt (step p c)), some (.int (((d : Int) + if c = 40 then 1 else 0) - if c = 41 then 1 else 0)), some (.int (i : Int)), some (.str (sg c))] ∧ G'' = G', ?_, ?_⟩
      · refine ⟨_, rfl, rfl, _, rfl, ?_⟩
        rw [show Str.ofString ")" = sg 41 from e41, sgE]
        by_cases h : c = 41
        · refine iteT' (decide_eq_true h) ?_
          exact ⟨_, rfl, _, _, rfl, rfl, by rw [if_pos h]; rfl, rfl⟩
        · refine iteF' (decide_eq_false h) ?_
          exact ⟨by rw [if_neg h, Int.sub_zero], rfl⟩
      rintro σ' G'' ⟨rfl, rfl⟩
      have hd := sf.d
      have out : go p d c = none → Q (.int (i : Int)) G'' := fun hg => by
        have := bad_at (nn hg) i4
        have k := k G'' sG2
        rw [this] at k
        exact k
      cases hs : step p c with
      | none =>
        refine ⟨_, rfl, rfl, _, rfl, iteT' (decide_eq_true rfl) (iteT' rfl ?_)⟩
        exact ⟨_, rfl, out (go_none hs)⟩
      | some q =>
        have hgo : go p d c = if c = 40 then (if d = 18 then none else some (q, d + 1)) else if c = 41 then (if d = 0 then none else some (q, d - 1)) else some (q, d) := by
          unfold go
          rw [hs]
        refine ⟨_, rfl, rfl, _, rfl, iteF' (decide_eq_false (fun z => nomatch z)) ?_⟩
        refine ⟨_, rfl, _, _, rfl, rfl, _, rfl, ?_⟩
        by_cases h0 : (((d : Int) + if c = 40 then 1 else 0) - if c = 41 then 1 else 0) < 0
        · refine iteT' (decide_eq_true h0) (iteT' rfl ⟨_, rfl, out ?_⟩)
          rw [hgo]
          by_cases a : c = 40
          · subst a
            rw [if_pos rfl, if_neg (by decide)] at h0
            omega
          · rw [if_neg a] at h0 ⊢
            by_cases b : c = 41
            · rw [if_pos b] at h0 ⊢
              rw [if_pos (by omega)]
            · rw [if_neg b] at h0
              omega
        · refine iteF' (decide_eq_false h0) ?_
          refine ⟨_, rfl, _, _, rfl, rfl, _, rfl, ?_⟩
          by_cases h1 : (((d : Int) + if c = 40 then 1 else 0) - if c = 41 then 1 else 0) > 18
          · refine iteT' (decide_eq_true h1) ⟨_, rfl, out ?_⟩
            rw [hgo]
            by_cases a : c = 40
            · subst a
              rw [if_pos rfl, if_neg (by decide)] at h1
              rw [if_pos rfl, if_pos (by omega)]
            · rw [if_neg a] at h1
              split at h1 <;> omega
          · refine iteF' (decide_eq_false h1) ?_
            by_cases a : c = 40
            · subst a
              rw [if_pos rfl, if_neg (by decide)] at h1
              rw [if_pos rfl, if_neg (by omega)] at hgo
              exact ⟨q, d + 1, _, _, rfl, sG2, nx _ _ hgo⟩
            · rw [if_neg a] at hgo h0 h1 ⊢
              by_cases b : c = 41
              · rw [if_pos b] at hgo h0 ⊢
                rw [if_neg (by omega)] at hgo
                refine ⟨q, d - 1, some (.int (i : Int)), some (.str (sg c)), ?_, sG2, nx _ _ hgo⟩
                rw [show (((d - 1 : Nat)) : Int) = (d : Int) + 0 - 1 by omega]
                rfl
              · rw [if_neg b] at hgo ⊢
                refine ⟨q, d, some (.int (i : Int)), some (.str (sg c)), ?_, sG2, nx _ _ hgo⟩
                rw [Int.add_zero, Int.sub_zero]
                rfl
    · rintro σ G ⟨p, d, o3, o4, rfl, sG, sf⟩
      rw [lcut] at sf
      have k := k G sG
      refine ⟨_, rfl, s, rfl, lz, _, _, rfl, rfl, _, rfl, ?_⟩
      by_cases h4 : 400 < s.length
      · refine iteT' (decide_eq_true (by omega)) ?_
        rw [Nat.min_eq_left (by rw [cl_len]; omega)] at sf
        rw [bad_far sf h4] at k
        exact k
      · refine iteF' (decide_eq_false (by omega)) ?_
        rw [Nat.min_eq_right (by rw [cl_len]; omega)] at sf
        rw [bad_end sf (by rw [cl_len]; omega)] at k
        refine ⟨_, rfl, EA, _, rfl, .inr tEN.t, rfl, rfl, _, rfl, ?_⟩
        show (if inV (.str (nm p)) [.str "zero", .str "top", .str "bottom", .str "done"] = true then _ else _)
        rw [in_ends]
        cases he : ends p with
        | true =>
          rw [he] at k
          refine iteT' rfl ⟨_, rfl, rfl, _, rfl, ?_⟩
          rw [dintN]
          by_cases hd : d = 0
          · subst hd
            refine iteT' rfl ?_
            rw [if_pos ⟨rfl, rfl⟩] at k
            exact k
          · refine iteF' (decide_eq_false (by omega)) ?_
            rw [if_neg (fun z => hd z.2)] at k
            exact ⟨_, rfl, s, rfl, lz, k⟩
        | false =>
          rw [he, if_neg (fun z => Bool.noConfusion z.1)] at k
          refine iteF' rfl (iteF' rfl ?_)
          exact ⟨_, rfl, s, rfl, lz, k⟩
end
end RX

set_option Elab.async false
set_option maxRecDepth 100000
namespace RX
open PySem L2 AU
theorem lnE (p q : Pt) : decide (V.str (ln p) = V.str (ln q)) = decide (p = q) := by
  cases p <;> cases q <;> first | exact seqT rfl | exact seqF (by decide +kernel)
theorem e48 : ("0" : Str) = sg 48 := by decide +kernel
theorem e45 : ("-" : Str) = sg 45 := by decide +kernel
theorem e47 : ("/" : Str) = sg 47 := by decide +kernel
theorem e42 : ("*" : Str) = sg 42 := by decide +kernel
theorem e46 : ("." : Str) = sg 46 := by decide +kernel
theorem e43 : ("+" : Str) = sg 43 := by decide +kernel
theorem tnot {b : Bool} {p q : Prop} (h : b = true) (k : p) : if b = true then p else q := iteT' h k
section
variable {P : Program} {w : World} {K : PySem.W.Frag} {mg : Str → Option Value} {base : Heap}
theorem ok_fo {f : Addr} {fd : FuncData} (F : Fun K "_law_following" "_law_following" sFo f fd) (T : TxtL mg) : FnOk P w K mg base CX0 1 f fd ["state", "sign", "opened"] spFo := by
  refine F.ok scFo (fun vs H Q E h => ?_) (fun cdv A outer s H vs Q E hr h => ?_)
  · obtain ⟨p, d, c, rfl, _⟩ := h
    rfl
  · obtain ⟨p, d, c, rfl, hd, k⟩ := h
    rw [far_eq p d c hd] at k
    refine ⟨_, pss_cons (ps_if (pt_cmpR op_eq (pv 0) pe_str (nomark _))
        (pss_cons (ps_if (pt_cmpR op_eq (pv 1) pe_str (nomark _))
          (pss_one (ps_ret pe_str))
          pss_nil)
        (pss_cons (ps_if (pt_cmpR op_in_sign (pv 1) pe_str (by rfl))
          (pss_one (ps_ret pe_str))
          pss_nil)
        (pss_cons (ps_if (pt_cmpR op_eq (pv 1) pe_str (nomark _))
          (pss_one (ps_ret pe_str))
          pss_nil)
        (pss_cons (ps_if (pt_cmpR op_in_sign (pv 1) pe_str (by rfl))
          (pss_one (ps_ret pe_str))
          pss_nil)
        (C8.pss_cut (ps_if (PW.pt (pw_and (pt_cmpR op_eq (pv 1) pe_str (nomark _)) (pw_and1 (pt_cmpR op_lt (pv 2) pe_int (nomark _)))))
          (pss_one (ps_ret pe_str))
          pss_nil)
        (pss_one (ps_ret pe_str)))))))
        pss_nil)
      (C8.pss_cut (ps_if (PW.pt (pw_or (pt_cmpR op_eq (pv 0) pe_str (nomark _)) (pw_or1 (pt_cmpR op_eq (pv 0) pe_str (nomark _)))))
        (pss_cons (ps_if (pt_cmpR op_in_sign (pv 1) pe_str (by rfl))
          (pss_one (ps_ret (pe_ix ix_list (pe_lst (pa_cons pe_str (pa_cons pe_str pa_nil))) (pe_callTy call_int1 (by rfl) T.int (by decide +kernel) (pa_cons (pe_cmpR op_eq (pv 0) pe_str (nomark _)) pa_nil)) (fun _ _ => rfl))))
          pss_nil)
        (pss_one (ps_ret pe_str)))
        pss_nil)
      (C8.pss_cut (ps_if (PW.pt (pw_and (PW.pt (pw_or (pt_cmpR op_eq (pv 0) pe_str (nomark _)) (pw_or1 (pt_cmpR op_eq (pv 0) pe_str (nomark _))))) (pw_and1 (pt_cmpR op_in_sign (pv 1) pe_str (by rfl)))))
        (pss_one (ps_ret (pv 0)))
        pss_nil)
      (C8.pss_cut (ps_if (PW.pt (pw_and (PW.pt (pw_or (pt_cmpR op_eq (pv 0) pe_str (nomark _)) (pw_or1 (pt_cmpR op_eq (pv 0) pe_str (nomark _))))) (pw_and1 (pt_cmpR op_eq (pv 1) pe_str (nomark _)))))
        (pss_one (ps_ret pe_str))
        pss_nil)
      (C8.pss_cut (ps_if (PW.pt (pw_or (pt_cmpR op_eq (pv 1) pe_str (nomark _)) (pw_or1 (PW.pt (pw_and (pt_cmpR op_eq (pv 1) pe_str (nomark _)) (pw_and1 (pt_cmpR op_gt (pv 2) pe_int (nomark _))))))))
        (pss_one (ps_ret pe_str))
        pss_nil)
      (C8.pss_cut (ps_if (PW.pt (pw_or (pt_cmpR op_eq (pv 1) pe_str (nomark _)) (pw_or1 (pt_cmpR op_eq (pv 1) pe_str (nomark _)))))
        (pss_one (ps_ret pe_str))
        pss_nil)
      (pss_one (ps_ret pe_str))))))), ?_⟩
    have eqs : ∀ {z : Str} {n : Nat} {A B : Prop}, z = sg n → (c = n → A) → (c ≠ n → B) → if decide (V.str (sg c) = V.str z) = true then A else B := fun {z n A B} hz h1 h2 => by
      rw [hz, sgE]
      by_cases h : c = n
      · exact iteT' (decide_eq_true h) (h1 h)
      · exact iteF' (decide_eq_false h) (h2 h)
    have eqp : ∀ {z : Str} (q : Pt) {A B : Prop}, z = ln q → (p = q → A) → (p ≠ q → B) → if decide (V.str (ln p) = V.str z) = true then A else B := fun {z} q {A B} hz h1 h2 => by
      rw [hz, lnE]
      by_cases h : p = q
      · exact iteT' (decide_eq_true h) (h1 h)
      · exact iteF' (decide_eq_false h) (h2 h)
    have inn : ∀ {l : List Nat} {A B : Prop}, (c ∈ l → A) → (c ∉ l → B) → if decide (c ∈ l) = true then A else B := fun {l A B} h1 h2 => by
      by_cases h : c ∈ l
      · exact iteT' (decide_eq_true h) (h1 h)
      · exact iteF' (decide_eq_false h) (h2 h)
    refine ⟨_, rfl, rfl, _, rfl, eqp .part rfl (fun hp => ?_) fun hp => ?_⟩
    · subst hp
      have k : Q (.str (if c = 48 then ("zero" : Str) else if c ∈ ("123456789" : Str).cps.toList then ("digits" : Str) else if c = 45 then ("minus" : Str) else if c ∈ ("abcd" : Str).cps.toList then ("done" : Str) else if c = 40 ∧ d < 18 then ("part" : Str) else ("" : Str))) H := k H (Same.refl _)
      refine ⟨_, rfl, rfl, _, rfl, eqs e48 (fun h => by rw [if_pos h] at k; exact k) fun h => ?_⟩
      rw [if_neg h] at k
      refine ⟨_, rfl, c, _, rfl, rfl, _, rfl, inn (fun h => by rw [if_pos h] at k; exact k) fun h => ?_⟩
      rw [if_neg h] at k
      refine ⟨_, rfl, rfl, _, rfl, eqs e45 (fun h => by rw [if_pos h] at k; exact k) fun h => ?_⟩
      rw [if_neg h] at k
      refine ⟨_, rfl, c, _, rfl, rfl, _, rfl, inn (fun h => by rw [if_pos h] at k; exact k) fun h => ?_⟩
      rw [if_neg h] at k
      refine ⟨fun σ' H' => ¬ (c = 40 ∧ d < 18) ∧ H' = H, ?_, ?_⟩
      · refine ⟨_, rfl, rfl, _, rfl, eqs e40 (fun h => ?_) fun h => ?_⟩
        · refine ⟨_, rfl, _, _, rfl, rfl, _, rfl, ?_⟩
          by_cases h2 : d < 18
          · refine iteT' (decide_eq_true (by omega)) ?_
            rw [if_pos ⟨h, h2⟩] at k
            exact k
          · exact iteF' (decide_eq_false (by omega)) ⟨fun z => h2 z.2, rfl⟩
        · exact iteF' rfl ⟨fun z => h z.1, rfl⟩
      rintro σ' H' ⟨h, rfl⟩
      rw [if_neg h] at k
      exact k
    have st : ∀ (q : Pt), q = .minus ∨ q = .slash → p = q → (c ∈ ("123456789" : Str).cps.toList → ∀ H', Same H H' → Q (.str (if q = .slash then ("below" : Str) else ("digits" : Str))) H') ∧ (c ∉ ("123456789" : Str).cps.toList → Q (.str ("" : Str)) H) := fun q hq e => by
      subst e
      rcases hq with rfl | rfl
      · refine ⟨fun h H' s => ?_, fun h => ?_⟩
        · have := k H' s
          rw [show lawF .minus d c = ("digits" : Str) from if_pos h] at this
          exact this
        · have := k H (Same.refl _)
          rw [show lawF .minus d c = ("" : Str) from if_neg h] at this
          exact this
      · refine ⟨fun h H' s => ?_, fun h => ?_⟩
        · have := k H' s
          rw [show lawF .slash d c = ("below" : Str) from if_pos h] at this
          exact this
        · have := k H (Same.refl _)
          rw [show lawF .slash d c = ("" : Str) from if_neg h] at this
          exact this
    refine ⟨fun σ' H' => σ' = [some (.str (ln p)), some (.str (sg c)), some (.int (d : Int))] ∧ H' = H ∧ p ≠ .minus ∧ p ≠ .slash, ?_, ?_⟩
    · by_cases e : p = .minus
      · subst e
        obtain ⟨s1, s2⟩ := st .minus (.inl rfl) rfl
        refine ⟨_, rfl, rfl, _, rfl, iteT' (lnE .minus .minus) (iteT' rfl ?_)⟩
        refine ⟨_, rfl, c, _, rfl, rfl, _, rfl, inn (fun h => ?_) fun h => s2 h⟩
        refine ⟨(by show 2 ≤ sizeLine; decide), fun D nD => ?_⟩
        exact ⟨_, rfl, rfl, .inr ⟨_, rfl, D, _, _, _, rfl, rfl, SqL.of upd_same, rfl, s1 h _ (Same.upd nD)⟩⟩
      by_cases e2 : p = .slash
      · subst e2
        obtain ⟨s1, s2⟩ := st .slash (.inr rfl) rfl
        refine ⟨_, rfl, rfl, _, rfl, iteF' (lnE .slash .minus) ⟨_, rfl, rfl, _, rfl, iteT' (lnE .slash .slash) ?_⟩⟩
        refine ⟨_, rfl, c, _, rfl, rfl, _, rfl, inn (fun h => ?_) fun h => s2 h⟩
        refine ⟨(by show 2 ≤ sizeLine; decide), fun D nD => ?_⟩
        exact ⟨_, rfl, rfl, .inr ⟨_, rfl, D, _, _, _, rfl, rfl, SqL.of upd_same, rfl, s1 h _ (Same.upd nD)⟩⟩
      exact ⟨_, rfl, rfl, _, rfl, iteF' ((lnE p .minus).trans (decide_eq_false e)) ⟨_, rfl, rfl, _, rfl, iteF' ((lnE p .slash).trans (decide_eq_false e2)) ⟨rfl, rfl, e, e2⟩⟩⟩
    rintro σ' H' ⟨rfl, rfl, np, nq⟩
    refine ⟨fun σ' H'' => σ' = [some (.str (ln p)), some (.str (sg c)), some (.int (d : Int))] ∧ H'' = H' ∧ ¬ ((p = .top ∨ p = .bottom) ∧ c ∈ ("0123456789" : Str).cps.toList), ?_, ?_⟩
    · by_cases e : p = .top
      · subst e
        refine ⟨_, rfl, rfl, _, rfl, iteT' (lnE .top .top) (iteT' rfl ?_)⟩
        refine ⟨_, rfl, c, _, rfl, rfl, _, rfl, inn (fun h => ⟨_, rfl, ?_⟩) fun h => ⟨rfl, rfl, fun z => h z.2⟩⟩
        have := k H' (Same.refl _)
        rw [show lawF .top d c = ("digits" : Str) from if_pos h] at this
        exact this
      by_cases e2 : p = .bottom
      · subst e2
        refine ⟨_, rfl, rfl, _, rfl, iteF' (lnE .bottom .top) ⟨_, rfl, rfl, _, rfl, iteT' (lnE .bottom .bottom) ?_⟩⟩
        refine ⟨_, rfl, c, _, rfl, rfl, _, rfl, inn (fun h => ⟨_, rfl, ?_⟩) fun h => ⟨rfl, rfl, fun z => h z.2⟩⟩
        have := k H' (Same.refl _)
        rw [show lawF .bottom d c = ("below" : Str) from if_pos h] at this
        exact this
      exact ⟨_, rfl, rfl, _, rfl, iteF' ((lnE p .top).trans (decide_eq_false e)) ⟨_, rfl, rfl, _, rfl, iteF' ((lnE p .bottom).trans (decide_eq_false e2)) (iteF' rfl ⟨rfl, rfl, fun z => z.1.elim e e2⟩)⟩⟩
    rintro σ' H' ⟨rfl, rfl, n9⟩
    refine ⟨fun σ' H'' => σ' = [some (.str (ln p)), some (.str (sg c)), some (.int (d : Int))] ∧ H'' = H' ∧ ¬ ((p = .top ∨ p = .zero) ∧ c = 47), ?_, ?_⟩
    · by_cases e : p = .top
      · subst e
        refine ⟨_, rfl, rfl, _, rfl, iteT' (lnE .top .top) (iteT' rfl ?_)⟩
        refine ⟨_, rfl, rfl, _, rfl, eqs e47 (fun h => ?_) fun h => ⟨rfl, rfl, fun z => h z.2⟩⟩
        have := k H' (Same.refl _)
        rw [show lawF .top d c = ("slash" : Str) from (if_neg fun z => n9 ⟨.inl rfl, z⟩).trans (if_pos h)] at this
        exact this
      by_cases e2 : p = .zero
      · subst e2
        refine ⟨_, rfl, rfl, _, rfl, iteF' (lnE .zero .top) ⟨_, rfl, rfl, _, rfl, iteT' (lnE .zero .zero) ?_⟩⟩
        refine ⟨_, rfl, rfl, _, rfl, eqs e47 (fun h => ?_) fun h => ⟨rfl, rfl, fun z => h z.2⟩⟩
        have := k H' (Same.refl _)
        rw [show lawF .zero d c = ("slash" : Str) from if_pos h] at this
        exact this
      exact ⟨_, rfl, rfl, _, rfl, iteF' ((lnE p .top).trans (decide_eq_false e)) ⟨_, rfl, rfl, _, rfl, iteF' ((lnE p .zero).trans (decide_eq_false e2)) (iteF' rfl ⟨rfl, rfl, fun z => z.1.elim e e2⟩)⟩⟩
    rintro σ' H' ⟨rfl, rfl, n7⟩
    have k : Q (.str (tail d c)) H' := by
      have := k H' (Same.refl _)
      have e : lawF p d c = tail d c := by
        cases p with
        | part => exact absurd rfl hp
        | minus => exact absurd rfl np
        | slash => exact absurd rfl nq
        | top => exact (if_neg fun z => n9 ⟨.inl rfl, z⟩).trans (if_neg fun z => n7 ⟨.inl rfl, z⟩)
        | bottom => exact if_neg fun z => n9 ⟨.inr rfl, z⟩
        | zero => exact if_neg fun z => n7 ⟨.inr rfl, z⟩
        | done => rfl
      rw [e] at this
      exact this
    unfold tail at k
    refine ⟨fun σ' H'' => σ' = [some (.str (ln p)), some (.str (sg c)), some (.int (d : Int))] ∧ H'' = H' ∧ ¬ (c = 42 ∨ (c = 41 ∧ 0 < d)), ?_, ?_⟩
    · refine ⟨_, rfl, rfl, _, rfl, eqs e42 (fun h => iteT' rfl ?_) fun h => ?_⟩
      · rw [if_pos (.inl h)] at k; exact k
      · refine ⟨_, rfl, rfl, _, rfl, eqs e41 (fun h2 => ?_) fun h2 => ?_⟩
        · refine ⟨_, rfl, _, _, rfl, rfl, _, rfl, ?_⟩
          by_cases h3 : 0 < d
          · refine iteT' (decide_eq_true (by omega)) ?_
            rw [if_pos (.inr ⟨h2, h3⟩)] at k; exact k
          · exact iteF' (decide_eq_false (by omega)) ⟨rfl, rfl, fun z => z.elim h fun y => h3 y.2⟩
        · exact iteF' rfl ⟨rfl, rfl, fun z => z.elim h fun y => h2 y.1⟩
    rintro σ' H' ⟨rfl, rfl, n4⟩
    rw [if_neg n4] at k
    refine ⟨fun σ' H'' => H'' = H' ∧ ¬ (c = 46 ∨ c = 43), ?_, ?_⟩
    · refine ⟨_, rfl, rfl, _, rfl, eqs e46 (fun h => iteT' rfl ?_) fun h => ?_⟩
      · rw [if_pos (.inl h)] at k; exact k
      · refine ⟨_, rfl, rfl, _, rfl, eqs e43 (fun h2 => ?_) fun h2 => ⟨rfl, fun z => z.elim h h2⟩⟩
        rw [if_pos (.inr h2)] at k; exact k
    rintro σ' H' ⟨rfl, n5⟩
    rw [if_neg n5] at k
    exact k
end
end RX

set_option Elab.async false
set_option maxRecDepth 100000
namespace RX
open PySem L2 AU
theorem in_open (p : Pt) : inV (.str (ln p)) [.str "part", .str "minus", .str "slash"] = !ends p := by cases p <;> rfl
theorem atZ {l : List Nat} {j c : Nat} {z : Int} (e : z = (j : Int)) (h : l[j]? = some c) : atI l z = some c := by
  subst e
  have lt := (List.getElem?_eq_some_iff.mp h).1
  unfold atI ixN
  rw [if_pos (by omega), if_pos (by omega)]
  exact h
section
variable {P : Program} {w : World} {K : PySem.W.Frag} {mg : Str → Option Value} {base : Heap}
theorem ok_pl {f fF : Addr} {fd dF : FuncData} (F : Fun K "_law_place" "_law_place" sPl f fd) (T : TxtL mg) (mMin : mg "min" = none) (cFo : CalN P w K mg base "_law_following" 1 ["state", "sign", "opened"] spFo fF dF) : FnOk P w K mg base CX0 2 f fd ["told"] spPl := by
  refine F.ok scPl (fun vs H Q E h => ?_) (fun cdv A outer s H vs Q E hr h => ?_)
  · obtain ⟨s, rfl, _⟩ := h
    rfl
  · obtain ⟨s, rfl, ls, k⟩ := h
    have hr1 : Room 1 _ := hr
    refine ⟨_, pss_cons (ps_set (i := 1) scPl.nd rfl (.inl rfl) pe_str)
      (pss_cons (ps_set (i := 2) scPl.nd rfl (.inl rfl) pe_int)
      (pss_cons (ps_for PassesOwn.never rfl (pi_range1 (by rfl) T.range (pa_cons (pe_callB (call_min2 rfl) (by rfl) mMin (by decide +kernel) (pa_cons (pe_callB call_len_str (by rfl) T.len PySem.boot_len (pa_cons (pv 0) pa_nil)) (pa_cons pe_int pa_nil))) pa_nil)) (pg_name (i := 3) scPl.nd rfl (.inl rfl))
        (pss_cons (ps_set (i := 4) scPl.nd rfl (.inl rfl) (pe_ix ix_str (pv 0) (pv 3) (fun _ _ => rfl)))
        (pss_cons (ps_set (i := 1) scPl.nd rfl (.inl rfl) (pe_call cFo.G hr1 rfl cFo.m cFo.kp cFo.b .nil pass0 (pa_cons (pv 1) (pa_cons (pv 4) (pa_cons (pv 2) pa_nil)))))
        (pss_cons (ps_if (pt_cmpR op_eq (pv 1) pe_str (nomark _))
          (pss_one (ps_ret (pv 3)))
          pss_nil)
        (pss_one (ps_set (i := 2) scPl.nd rfl (.inl rfl) (pe_op op_sub (pe_op op_add (pv 2) (pe_callTy call_int1 (by rfl) T.int (by decide +kernel) (pa_cons (pe_cmpR op_eq (pv 4) pe_str (nomark _)) pa_nil))) (pe_callTy call_int1 (by rfl) T.int (by decide +kernel) (pa_cons (pe_cmpR op_eq (pv 4) pe_str (nomark _)) pa_nil)))))))))
      (pss_cons (ps_if (pt_cmpR op_gt (pe_callB call_len_str (by rfl) T.len PySem.boot_len (pa_cons (pv 0) pa_nil)) pe_int (nomark _))
        (pss_one (ps_ret pe_int))
        pss_nil)
      (C8.pss_cut (ps_if (PW.pt (pw_or (pt_cmpR op_in_seq (pv 1) (pe_lst (pa_cons pe_str (pa_cons pe_str (pa_cons pe_str pa_nil)))) (by rfl)) (pw_or1 (pt_cmpR op_gt (pv 2) pe_int (nomark _)))))
        (pss_one (ps_ret (pe_callB call_len_str (by rfl) T.len PySem.boot_len (pa_cons (pv 0) pa_nil))))
        pss_nil)
      (pss_one (ps_ret (pe_op op_sub pe_int pe_int))))))), ?_⟩
    have lz : s.length ≤ sizeLine := Nat.le_trans ls (by decide)
    obtain ⟨M, eM, hM⟩ : ∃ M : Nat, (if (400 : Int) < (s.length : Int) then (400 : Int) else (s.length : Int)) = (M : Int) ∧ M = min 400 s.length := ⟨_, by split <;> omega, rfl⟩
    refine ⟨_, rfl, s, rfl, lz, _, _, rfl, (M : Int), congrArg (fun z => [V.int z]) eM, by omega, by omega, for_range (n := M) (fun i σ G => ∃ (p : Pt) (d : Nat) (o3 o4 : Option V), σ = [some (.str s), some (.str (ln p)), some (.int (d : Int)), o3, o4] ∧ Same H G ∧ Sofar (cl s) i p d)
      ⟨.part, 0, none, none, rfl, Same.refl _, ⟨rfl, by decide⟩⟩ ?_ ?_⟩
    · rintro i σ G hi ⟨p, d, o3, o4, rfl, sG, sf⟩
      have i4 : i < 400 := by omega
      have hil : i < (cl s).length := by rw [cl_len]; omega
      have hc1 : (cl s)[i]? = some ((cl s)[i]'hil) := List.getElem?_eq_getElem hil
      generalize (cl s)[i]'hil = c at hc1
      obtain ⟨nx, nn⟩ := sf.next hc1
      have hd := sf.d
      refine ⟨_, rfl, _, rfl, s, _, c, rfl, rfl, lz, atZ (Int.zero_add _) hc1, ?_⟩
      refine ⟨_, rfl, _, rfl, _, rfl, p, d, c, rfl, hd, fun G1 s1 => ?_⟩
      have sG1 := sG.trans s1
      refine ⟨_, rfl, rfl, _, rfl, ?_⟩
      cases hg : go p d c with
      | none =>
        refine iteT' (seqT (far_none.mpr hg)) ⟨_, rfl, ?_⟩
        have k := k G1 sG1
        rw [bad_at (nn hg) i4] at k
        rw [show (0 : Int) + (i : Int) = (i : Int) by omega]
        exact k
      | some x =>
        obtain ⟨q, e⟩ := x
        refine iteF' (seqF (fun z => by rw [far_none.mp z] at hg; cases hg)) ?_
        refine ⟨_, rfl, _, rfl, rfl, .inr ⟨_, rfl, _, _, rfl, rfl, _, rfl, rfl, .inr ⟨_, rfl, _, _, rfl, rfl, ?_⟩⟩⟩
        have ef : far p d c = ln q := by unfold far; rw [hg]
        have ev : (d : Int) + (if decide (V.str (sg c) = V.str (Str.ofString "(")) = true then (1 : Int) else 0) - (if decide (V.str (sg c) = V.str (Str.ofString ")")) = true then (1 : Int) else 0) = (e : Int) := by
          rw [show Str.ofString "(" = sg 40 from e40, show Str.ofString ")" = sg 41 from e41, sgE, sgE]
          unfold go at hg
          cases hs : step p c with
          | none => rw [hs] at hg; cases hg
          | some q' =>
            rw [hs] at hg
            by_cases a : c = 40
            · subst a
              have hg : (if (40 : Nat) = 40 then (if d = 18 then none else some (q', d + 1)) else if (40 : Nat) = 41 then (if d = 0 then none else some (q', d - 1)) else some (q', d)) = some (q, e) := hg
              rw [if_pos rfl] at hg
              split at hg
              · cases hg
              · cases hg
                show (d : Int) + 1 - 0 = ((d + 1 : Nat) : Int)
                omega
            · have hg : (if c = 40 then (if d = 18 then none else some (q', d + 1)) else if c = 41 then (if d = 0 then none else some (q', d - 1)) else some (q', d)) = some (q, e) := hg
              rw [if_neg a] at hg
              rw [decide_eq_false a]
              by_cases b : c = 41
              · subst b
                rw [if_pos rfl] at hg
                split at hg
                · cases hg
                · cases hg
                  show (d : Int) + 0 - 1 = ((d - 1 : Nat) : Int)
                  omega
              · rw [if_neg b] at hg
                rw [decide_eq_false b]
                cases hg
                show (d : Int) + 0 - 0 = (d : Int)
                omega
        refine ⟨q, e, some (.int (0 + (i : Int))), some (.str (sg c)), ?_, sG1, nx _ _ hg⟩
        rw [← ev, ← ef]
        rfl
    · rintro σ G ⟨p, d, o3, o4, rfl, sG, sf⟩
      refine ⟨_, rfl, s, rfl, lz, _, _, rfl, rfl, _, rfl, ?_⟩
      by_cases h4 : 400 < s.length
      · refine iteT' (decide_eq_true (by omega)) ?_
        have k := k G sG
        rw [hM, Nat.min_eq_left (by omega)] at sf
        rw [bad_far sf h4] at k
        exact k
      · refine iteF' (decide_eq_false (by omega)) ?_
        rw [hM, Nat.min_eq_right (by omega)] at sf
        have hb := bad_end sf (by rw [cl_len]; omega)
        refine ⟨fun σ' G' => Same H G' ∧ ends p = true ∧ d = 0, ?_, ?_⟩
        · refine ⟨_, rfl, (by show 3 ≤ sizeLine; decide), fun D nD => ?_⟩
          have sD := sG.trans (Same.upd (o := .lst [.str "part", .str "minus", .str "slash"]) nD)
          refine ⟨D, _, rfl, .inl (SqL.of upd_same), rfl, rfl, _, rfl, ?_⟩
          show (if inV (.str (ln p)) [.str "part", .str "minus", .str "slash"] = true then _ else _)
          rw [in_open]
          generalize upd G D (.lst [.str "part", .str "minus", .str "slash"]) = G2 at *
          have k := k G2 sD
          rw [hb] at k
          cases he : ends p with
          | false =>
            rw [he, if_neg (fun z => Bool.noConfusion z.1)] at k
            refine iteT' rfl (iteT' rfl ?_)
            exact ⟨_, rfl, s, rfl, lz, k⟩
          | true =>
            refine iteF' rfl ?_
            refine ⟨_, rfl, _, _, rfl, rfl, _, rfl, ?_⟩
            by_cases h0 : d = 0
            · exact iteF' (decide_eq_false (by omega)) ⟨sD, rfl, h0⟩
            · refine iteT' (decide_eq_true (by omega)) ?_
              rw [if_neg (fun z => h0 z.2)] at k
              exact ⟨_, rfl, s, rfl, lz, k⟩
        rintro σ' G' ⟨s2, he, h0⟩
        have k := k G' s2
        rw [hb, if_pos ⟨he, h0⟩] at k
        exact ⟨_, _, rfl, rfl, k⟩
end
end RX

set_option Elab.async false
set_option maxRecDepth 100000
namespace RX
open PySem L2 AU NumText
/-! ### what a text builds -/
def IntF (l : List Nat) (n : Int) : Prop := (AllDigits l ∧ l ≠ [] ∧ n = ((digitsVal l : Nat) : Int)) ∨ ∃ cs, l = 45 :: cs ∧ AllDigits cs ∧ cs ≠ [] ∧ n = -((digitsVal cs : Nat) : Int)
inductive LeafOf : List Nat → Tm → Prop where
  | letter {c : Nat} (h : 97 ≤ c ∧ c ≤ 100) : LeafOf [c] (.letter (sg c))
  | int {T : List Nat} {n : Int} (h : IntF T n) : LeafOf T (.num ((n : Rat) / ((1 : Int) : Rat)))
  | frac {T B : List Nat} {n : Int} (h : IntF T n) (k : AllDigits B) (ne : B ≠ []) (nz : digitsVal B ≠ 0) : LeafOf (T ++ 47 :: B) (.num ((n : Rat) / (((digitsVal B : Nat) : Int) : Rat)))
structure BS where
  o : List (Option Tm × Option Tm)
  d : Option Tm
  r : Option Tm
  p : Option Tm
def two (k : Tm → Tm → Tm) : Option Tm → Tm → Tm
  | none, x => x
  | some a, x => k a x
def whole (d r : Option Tm) (x : Tm) : Tm := two .plus d (two .row r x)
inductive Act : BS → List Nat → BS → Prop where
  | opn {o d r p} : Act ⟨o, d, r, p⟩ [40] ⟨o ++ [(d, r)], none, none, p⟩
  | cls {o d' r' d r x} : Act ⟨o ++ [(d', r')], d, r, some x⟩ [41] ⟨o, d', r', some (whole d r x)⟩
  | str {o d r x} : Act ⟨o, d, r, some x⟩ [42] ⟨o, d, r, some (.star x)⟩
  | dot {o d r x} : Act ⟨o, d, r, some x⟩ [46] ⟨o, d, some (two .row r x), some x⟩
  | pls {o d r x} : Act ⟨o, d, r, some x⟩ [43] ⟨o, some (whole d r x), none, some x⟩
  | leaf {o d r p tok t} (h : LeafOf tok t) : Act ⟨o, d, r, p⟩ tok ⟨o, d, r, some t⟩
def Run : BS → List (List Nat) → BS → Prop
  | b, [], b' => b = b'
  | b, t :: ts, b' => ∃ b1, Act b t b1 ∧ Run b1 ts b'
theorem dv_app (l : List Nat) (c : Nat) : digitsVal (l ++ [c]) = digitsVal l * 10 + (c - 48) := by
  unfold digitsVal
  rw [List.foldl_append]
  rfl
theorem ad_app {l : List Nat} {c : Nat} (h : AllDigits l) (hc : 48 ≤ c ∧ c ≤ 57) : AllDigits (l ++ [c]) := fun x hx => by
  rcases List.mem_append.mp hx with z | z
  · exact h x z
  · rw [List.mem_singleton.mp z]; exact hc
theorem ad_one {c : Nat} (hc : 48 ≤ c ∧ c ≤ 57) : AllDigits [c] := fun x hx => by rw [List.mem_singleton.mp hx]; exact hc
theorem intF_app {T : List Nat} {n : Int} {c : Nat} (h : IntF T n) (hc : 48 ≤ c ∧ c ≤ 57) : ∃ m, IntF (T ++ [c]) m := by
  rcases h with ⟨a, b, _⟩ | ⟨cs, rfl, a, b, _⟩
  · exact ⟨_, .inl ⟨ad_app a hc, by simp, rfl⟩⟩
  · exact ⟨_, .inr ⟨cs ++ [c], rfl, ad_app a hc, by simp, rfl⟩⟩
theorem intF_one {c : Nat} (hc : 48 ≤ c ∧ c ≤ 57) : ∃ m, IntF [c] m := ⟨_, .inl ⟨ad_one hc, by simp, rfl⟩⟩
theorem intF_neg {c : Nat} (hc : 48 ≤ c ∧ c ≤ 57) : ∃ m, IntF [45, c] m := ⟨_, .inr ⟨[c], rfl, ad_one hc, by simp, rfl⟩⟩
theorem intF_ne {T : List Nat} {n : Int} (h : IntF T n) : T ≠ [] := by
  rcases h with ⟨_, b, _⟩ | ⟨cs, rfl, _⟩
  · exact b
  · simp
/-- what is pending at a point -/
def Form : Pt → List Nat → Prop
  | .part, ds => ds = []
  | .done, ds => ds = []
  | .minus, ds => ds = [45]
  | .zero, ds => ds = [48]
  | .top, ds => ∃ n, IntF ds n
  | .slash, ds => ∃ T n, IntF T n ∧ ds = T ++ [47]
  | .bottom, ds => ∃ T n B, IntF T n ∧ ds = T ++ 47 :: B ∧ AllDigits B ∧ B ≠ [] ∧ digitsVal B ≠ 0
structure PInv (p : Pt) (d : Nat) (ds : List Nat) (b : BS) : Prop where
  l : b.o.length = d
  f : Form p ds
  h : p = .done → b.p ≠ none
theorem digs_in {c : Nat} : c ∈ digs.cps.toList ↔ c = 45 ∨ (47 ≤ c ∧ c ≤ 57) := by
  rw [show digs.cps.toList = [45, 47, 48, 49, 50, 51, 52, 53, 54, 55, 56, 57] by decide +kernel]
  simp only [List.mem_cons, List.not_mem_nil, or_false]
  omega
/-- the pending number becomes a part -/
theorem flush {p : Pt} {ds : List Nat} (he : ends p = true) (f : Form p ds) (o : List (Option Tm × Option Tm)) (dn rw' pt : Option Tm) (h : p = .done → pt ≠ none) : ∃ x, ∀ ts b', Run ⟨o, dn, rw', some x⟩ ts b' → Run ⟨o, dn, rw', pt⟩ ((if ds = [] then [] else [ds]) ++ ts) b' := by
  have leaf : ∀ t, ds ≠ [] → LeafOf ds t → ∃ x, ∀ ts b', Run ⟨o, dn, rw', some x⟩ ts b' → Run ⟨o, dn, rw', pt⟩ ((if ds = [] then [] else [ds]) ++ ts) b' := fun t ne hl => ⟨t, fun ts b' r => by
    rw [if_neg ne]
    exact ⟨_, .leaf hl, r⟩⟩
  cases p with
  | part => cases he
  | minus => cases he
  | slash => cases he
  | zero =>
    have f : ds = [48] := f
    obtain ⟨n, hn⟩ := intF_one (c := 48) (by decide)
    exact leaf _ (by rw [f]; simp) (by rw [f]; exact .int hn)
  | top =>
    obtain ⟨n, hn⟩ := f
    exact leaf _ (intF_ne hn) (.int hn)
  | bottom =>
    obtain ⟨T, n, B, hn, rfl, a, b, c⟩ := f
    exact leaf _ (by simp) (.frac hn a b c)
  | done =>
    have f : ds = [] := f
    cases pt with
    | none => exact absurd rfl (h rfl)
    | some x => exact ⟨x, fun ts b' r => by rw [if_pos f]; exact r⟩
theorem go_of {p q : Pt} {d e c : Nat} (h : go p d c = some (q, e)) : step p c = some q ∧ ((c = 40 ∧ e = d + 1) ∨ (c = 41 ∧ d ≠ 0 ∧ e = d - 1) ∨ (c ≠ 40 ∧ c ≠ 41 ∧ e = d)) := by
  unfold go at h
  cases hs : step p c with
  | none => rw [hs] at h; cases h
  | some q' =>
    rw [hs] at h
    have h : (if c = 40 then (if d = 18 then none else some (q', d + 1)) else if c = 41 then (if d = 0 then none else some (q', d - 1)) else some (q', d)) = some (q, e) := h
    by_cases a : c = 40
    · rw [if_pos a] at h
      split at h
      · cases h
      · cases h; exact ⟨rfl, .inl ⟨a, rfl⟩⟩
    · rw [if_neg a] at h
      by_cases b : c = 41
      · rw [if_pos b] at h
        split at h
        · cases h
        · rename_i z
          cases h; exact ⟨rfl, .inr (.inl ⟨b, z, rfl⟩)⟩
      · rw [if_neg b] at h
        cases h; exact ⟨rfl, .inr (.inr ⟨a, b, rfl⟩)⟩
theorem look_cons {s : Str} {q : Pt} {r : List (Str × Pt)} {c : Nat} {x : Pt} (h : look ((s, q) :: r) c = some x) : (c ∈ s.cps.toList ∧ x = q) ∨ look r c = some x := by
  have h : (if c ∈ s.cps.toList then some q else look r c) = some x := h
  split at h
  · rename_i z; cases h; exact .inl ⟨z, rfl⟩
  · exact .inr h
theorem i19 {c : Nat} (h : c ∈ ("123456789" : Str).cps.toList) : 49 ≤ c ∧ c ≤ 57 := by
  rw [m19] at h
  simp only [List.mem_cons, List.not_mem_nil, or_false] at h
  omega
theorem i09 {c : Nat} (h : c ∈ ("0123456789" : Str).cps.toList) : 48 ≤ c ∧ c ≤ 57 := by
  rw [m09] at h
  simp only [List.mem_cons, List.not_mem_nil, or_false] at h
  omega
theorem iab {c : Nat} (h : c ∈ ("abcd" : Str).cps.toList) : 97 ≤ c ∧ c ≤ 100 := by
  rw [mab] at h
  simp only [List.mem_cons, List.not_mem_nil, or_false] at h
  omega
theorem ipl {c : Nat} (h : c ∈ ("+." : Str).cps.toList) : c = 43 ∨ c = 46 := by
  rw [mpl] at h
  simpa using h
theorem ist {c : Nat} (h : c ∈ ("*)" : Str).cps.toList) : c = 42 ∨ c = 41 := by
  rw [mst] at h
  simpa using h
theorem st_part {c : Nat} {q : Pt} (h : step .part c = some q) : (c = 48 ∧ q = .zero) ∨ (49 ≤ c ∧ c ≤ 57 ∧ q = .top) ∨ (c = 45 ∧ q = .minus) ∨ (97 ≤ c ∧ c ≤ 100 ∧ q = .done) ∨ (c = 40 ∧ q = .part) := by
  rcases look_cons h with ⟨z, e⟩ | h
  · rw [m0, m1] at z; exact .inl ⟨z, e⟩
  rcases look_cons h with ⟨z, e⟩ | h
  · exact .inr (.inl ⟨(i19 z).1, (i19 z).2, e⟩)
  rcases look_cons h with ⟨z, e⟩ | h
  · rw [mmi, m1] at z; exact .inr (.inr (.inl ⟨z, e⟩))
  rcases look_cons h with ⟨z, e⟩ | h
  · exact .inr (.inr (.inr (.inl ⟨(iab z).1, (iab z).2, e⟩)))
  rcases look_cons h with ⟨z, e⟩ | h
  · rw [mop, m1] at z; exact .inr (.inr (.inr (.inr ⟨z, e⟩)))
  cases h
theorem st_one {c : Nat} {q x : Pt} (h : look [("123456789", x)] c = some q) : 49 ≤ c ∧ c ≤ 57 ∧ q = x := by
  rcases look_cons h with ⟨z, e⟩ | h
  · exact ⟨(i19 z).1, (i19 z).2, e⟩
  cases h
/-- behind a part: on to the next, or a star or a bracket -/
theorem st_tail {c : Nat} {q : Pt} (h : look [("+.", Pt.part), ("*)", .done)] c = some q) : ((c = 43 ∨ c = 46) ∧ q = .part) ∨ ((c = 42 ∨ c = 41) ∧ q = .done) := by
  rcases look_cons h with ⟨z, e⟩ | h
  · exact .inl ⟨ipl z, e⟩
  rcases look_cons h with ⟨z, e⟩ | h
  · exact .inr ⟨ist z, e⟩
  cases h
theorem st_ends {p q : Pt} {c : Nat} (hp : ends p = true) (h : step p c = some q) : (((c = 43 ∨ c = 46) ∧ q = .part) ∨ ((c = 42 ∨ c = 41) ∧ q = .done)) ∨ (48 ≤ c ∧ c ≤ 57 ∧ q = p ∧ (p = .top ∨ p = .bottom)) ∨ (c = 47 ∧ q = .slash ∧ (p = .zero ∨ p = .top)) := by
  cases p with
  | part => cases hp
  | minus => cases hp
  | slash => cases hp
  | zero =>
    rcases look_cons h with ⟨z, e⟩ | h
    · rw [msl, m1] at z; exact .inr (.inr ⟨z, e, .inl rfl⟩)
    exact .inl (st_tail h)
  | top =>
    rcases look_cons h with ⟨z, e⟩ | h
    · exact .inr (.inl ⟨(i09 z).1, (i09 z).2, e, .inl rfl⟩)
    rcases look_cons h with ⟨z, e⟩ | h
    · rw [msl, m1] at z; exact .inr (.inr ⟨z, e, .inr rfl⟩)
    exact .inl (st_tail h)
  | bottom =>
    rcases look_cons h with ⟨z, e⟩ | h
    · exact .inr (.inl ⟨(i09 z).1, (i09 z).2, e, .inr rfl⟩)
    exact .inl (st_tail h)
  | done => exact .inl (st_tail h)
theorem tk_dig {c : Nat} {s ds : List Nat} (h : c = 45 ∨ (47 ≤ c ∧ c ≤ 57)) : tk (c :: s) ds = tk s (ds ++ [c]) := if_pos (digs_in.mpr h)
theorem tk_oth {c : Nat} {s ds : List Nat} (h : ¬ (c = 45 ∨ (47 ≤ c ∧ c ≤ 57))) : tk (c :: s) ds = (if ds = [] then [] else [ds]) ++ ([c] :: tk s []) := if_neg fun z => h (digs_in.mp z)
/-- a right text builds a term -/
theorem accept : ∀ (s : List Nat) (p : Pt) (d k : Nat) (ds : List Nat) (b : BS) (q : Pt), PInv p d ds b → scan p d k s = .inr (q, 0) → ends q = true → ∃ dn r x, Run b (tk s ds) ⟨[], dn, r, some x⟩
  | [], p, d, k, ds, ⟨o, dn, r, pt⟩, q, I, h, he => by
    cases h
    obtain ⟨x, hx⟩ := flush he I.f o dn r pt I.h
    have o0 : o = [] := List.eq_nil_of_length_eq_zero I.l
    subst o0
    refine ⟨dn, r, x, ?_⟩
    have := hx [] _ rfl
    rw [List.append_nil] at this
    exact this
  | c :: s, p, d, k, ds, ⟨o, dn, r, pt⟩, q, I, h, he => by
    have h : (match go p d c with | none => Sum.inl k | some (q, e) => scan q e (k + 1) s) = .inr (q, 0) := h
    cases hg : go p d c with
    | none => rw [hg] at h; cases h
    | some x =>
      obtain ⟨p', d'⟩ := x
      rw [hg] at h
      have h : scan p' d' (k + 1) s = .inr (q, 0) := h
      obtain ⟨hs, hd⟩ := go_of hg
      have l : o.length = d := I.l
      have f := I.f
      have dig : ∀ {p' : Pt}, scan p' d' (k + 1) s = .inr (q, 0) → (c = 45 ∨ (47 ≤ c ∧ c ≤ 57)) → p' ≠ .done → Form p' (ds ++ [c]) → ∃ dn' r' x, Run ⟨o, dn, r, pt⟩ (tk (c :: s) ds) ⟨[], dn', r', some x⟩ := fun {p'} h hc nd ff => by
        rw [tk_dig hc]
        exact accept s p' d' (k + 1) (ds ++ [c]) ⟨o, dn, r, pt⟩ q ⟨by show o.length = d'; rcases hd with z | z | z <;> omega, ff, fun z => absurd z nd⟩ h he
      have tailC : ends p = true → ((c = 43 ∨ c = 46) ∧ p' = .part) ∨ ((c = 42 ∨ c = 41) ∧ p' = .done) → ∃ dn' r' x, Run ⟨o, dn, r, pt⟩ (tk (c :: s) ds) ⟨[], dn', r', some x⟩ := fun hp hc => by
        rw [tk_oth (by omega)]
        obtain ⟨x, hx⟩ := flush hp f o dn r pt I.h
        rcases hc with ⟨rfl | rfl, rfl⟩ | ⟨rfl | rfl, rfl⟩
        · obtain ⟨dn', r', y, hr⟩ := accept s .part d' (k + 1) [] ⟨o, some (whole dn r x), none, some x⟩ q ⟨by show o.length = d'; omega, rfl, fun z => nomatch z⟩ h he
          exact ⟨dn', r', y, hx _ _ ⟨_, .pls, hr⟩⟩
        · obtain ⟨dn', r', y, hr⟩ := accept s .part d' (k + 1) [] ⟨o, dn, some (two .row r x), some x⟩ q ⟨by show o.length = d'; omega, rfl, fun z => nomatch z⟩ h he
          exact ⟨dn', r', y, hx _ _ ⟨_, .dot, hr⟩⟩
        · obtain ⟨dn', r', y, hr⟩ := accept s .done d' (k + 1) [] ⟨o, dn, r, some (.star x)⟩ q ⟨by show o.length = d'; omega, rfl, fun _ z => nomatch z⟩ h he
          exact ⟨dn', r', y, hx _ _ ⟨_, .str, hr⟩⟩
        · have o0 : o ≠ [] := fun z => by rw [z] at l; have l : 0 = d := l; omega
          obtain ⟨o', ⟨d1, r1⟩, rfl⟩ : ∃ o' e, o = o' ++ [e] := ⟨o.dropLast, o.getLast o0, (List.dropLast_concat_getLast o0).symm⟩
          have l : (o' ++ [(d1, r1)]).length = d := l
          rw [List.length_append] at l
          have l : o'.length + 1 = d := l
          obtain ⟨dn', r', y, hr⟩ := accept s .done d' (k + 1) [] ⟨o', d1, r1, some (whole dn r x)⟩ q ⟨by show o'.length = d'; omega, rfl, fun _ z => nomatch z⟩ h he
          exact ⟨dn', r', y, hx _ _ ⟨_, .cls, hr⟩⟩
      cases p with
      | part =>
        have f : ds = [] := f
        subst f
        rcases st_part hs with ⟨rfl, rfl⟩ | ⟨c1, c2, rfl⟩ | ⟨rfl, rfl⟩ | ⟨c1, c2, rfl⟩ | ⟨rfl, rfl⟩
        · exact dig h (by omega) (fun z => nomatch z) rfl
        · exact dig h (by omega) (fun z => nomatch z) (intF_one (by omega))
        · exact dig h (by omega) (fun z => nomatch z) rfl
        · rw [tk_oth (by omega), if_pos rfl]
          obtain ⟨dn', r', y, hr⟩ := accept s .done d' (k + 1) [] ⟨o, dn, r, some (.letter (sg c))⟩ q ⟨by show o.length = d'; have l : o.length = d := l; omega, rfl, fun _ z => nomatch z⟩ h he
          exact ⟨dn', r', y, _, .leaf (.letter ⟨c1, c2⟩), hr⟩
        · rw [tk_oth (by omega), if_pos rfl]
          obtain ⟨dn', r', y, hr⟩ := accept s .part d' (k + 1) [] ⟨o ++ [(dn, r)], none, none, pt⟩ q ⟨by show (o ++ [(dn, r)]).length = d'; rw [List.length_append]; have l : o.length = d := l; show o.length + 1 = d'; omega, rfl, fun z => nomatch z⟩ h he
          exact ⟨dn', r', y, _, .opn, hr⟩
      | minus =>
        have f : ds = [45] := f
        subst f
        obtain ⟨c1, c2, rfl⟩ := st_one hs
        exact dig h (by omega) (fun z => nomatch z) (intF_neg (by omega))
      | slash =>
        obtain ⟨T, n, hn, rfl⟩ := f
        obtain ⟨c1, c2, rfl⟩ := st_one hs
        refine dig h (by omega) (fun z => nomatch z) ⟨T, n, [c], hn, by rw [List.append_assoc]; rfl, ad_one (by omega), by simp, ?_⟩
        show 0 * 10 + (c - 48) ≠ 0
        omega
      | zero =>
        rcases st_ends rfl hs with z | ⟨c1, c2, rfl, z⟩ | ⟨rfl, rfl, z⟩
        · exact tailC rfl z
        · rcases z with z | z <;> cases z
        · have f : ds = [48] := f
          obtain ⟨n, hn⟩ := intF_one (c := 48) (by decide)
          exact dig h (by omega) (fun z => nomatch z) ⟨ds, n, by rw [f]; exact hn, rfl⟩
      | top =>
        rcases st_ends rfl hs with z | ⟨c1, c2, rfl, z⟩ | ⟨rfl, rfl, z⟩
        · exact tailC rfl z
        · obtain ⟨n, hn⟩ := f
          exact dig h (by omega) (fun z => nomatch z) (intF_app hn ⟨c1, c2⟩)
        · obtain ⟨n, hn⟩ := f
          exact dig h (by omega) (fun z => nomatch z) ⟨ds, n, hn, rfl⟩
      | bottom =>
        rcases st_ends rfl hs with z | ⟨c1, c2, rfl, z⟩ | ⟨rfl, rfl, z⟩
        · exact tailC rfl z
        · obtain ⟨T, n, B, hn, rfl, a, ne, nz⟩ := f
          refine dig h (by omega) (fun z => nomatch z) ⟨T, n, B ++ [c], hn, by rw [List.append_assoc]; rfl, ad_app a ⟨c1, c2⟩, by simp, ?_⟩
          rw [dv_app]
          omega
        · rcases z with z | z <;> cases z
      | done =>
        rcases st_ends rfl hs with z | ⟨c1, c2, rfl, z⟩ | ⟨rfl, rfl, z⟩
        · exact tailC rfl z
        · rcases z with z | z <;> cases z
        · rcases z with z | z <;> cases z
end RX

set_option Elab.async false
set_option maxRecDepth 100000
namespace RX
open PySem L2 AU NumText
abbrev sTk : Stmt := topS 24
theorem scTk : FnScope ["text", "found", "digits", "sign"] ["text"] (defScope sTk) := ⟨rfl, rfl, rfl, by decide +kernel, rfl, by decide +kernel, by decide +kernel⟩
abbrev sTw : Stmt := topS 26
theorem scTw : FnScope ["kind", "one", "other"] ["kind", "one", "other"] (defScope sTw) := ⟨rfl, rfl, rfl, by decide +kernel, rfl, by decide +kernel, by decide +kernel⟩
abbrev sLe : Stmt := topS 27
theorem scLe : FnScope ["token", "top", "_", "bottom"] ["token"] (defScope sLe) := ⟨rfl, rfl, rfl, by decide +kernel, rfl, by decide +kernel, by decide +kernel⟩
theorem line_le {n : Nat} (h : n ≤ 100000) : n ≤ sizeLine := Nat.le_trans h (by decide)
def txs (F : List (List Nat)) : List V := F.map fun l => V.str (SX.S l)
theorem txs_app (F G : List (List Nat)) : txs (F ++ G) = txs F ++ txs G := List.map_append
theorem S_app (a b : List Nat) : SX.S a ++ SX.S b = SX.S (a ++ b) := cl_inj (by
  rw [cl_app]
  show a.toArray.toList ++ b.toArray.toList = (a ++ b).toArray.toList
  rfl)
theorem tk_len : ∀ (s ds : List Nat), (tk s ds).length ≤ 2 * s.length + 1
  | [], ds => by show (if ds = [] then [] else [ds]).length ≤ 1; split <;> simp
  | c :: s, ds => by
    by_cases h : c = 45 ∨ (47 ≤ c ∧ c ≤ 57)
    · rw [tk_dig h]
      have := tk_len s (ds ++ [c])
      rw [List.length_cons]; omega
    · rw [tk_oth h, List.length_append, List.length_cons, List.length_cons]
      have := tk_len s []
      have : (if ds = [] then ([] : List (List Nat)) else [ds]).length ≤ 1 := by split <;> simp
      omega
def spTk : Sp := fun vs H Q _ => ∃ s : Str, vs = [.str s] ∧ s.length ≤ 400 ∧ ∀ (r : Addr) (H' : Hp), Same H H' → H r = none → H' r = some (.lst (txs (tk (cl s) []))) → Q (.ref r) H'
def optD : Option Tm → Dat
  | none => .non
  | some t => t.made
def spTw (C : Addr) : Sp := fun vs H Q _ => ∃ (N : Addr → Prop) (v u : V) (o : Option Tm) (t : Tm) (k : Tm → Tm → Tm) (nm' : Str), vs = [.str nm', v, u] ∧ ((k = Tm.plus ∧ nm' = "plus") ∨ (k = Tm.row ∧ nm' = "row")) ∧ At C N H v (optD o) ∧ At C N H u t.made ∧ Alc N H ∧
  ∀ (r : V) (H' : Hp), Same H H' → At C N H' r (two k o t).made → Q r H'
def spLe (C : Addr) : Sp := fun vs H Q _ => ∃ (N : Addr → Prop) (tok : List Nat) (t : Tm), vs = [.str (SX.S tok)] ∧ LeafOf tok t ∧ tok.length ≤ 401 ∧ Alc N H ∧ ∀ (r : V) (H' : Hp), Same H H' → At C N H' r t.made → Q r H'
section
variable {P : Program} {w : World} {K : PySem.W.Frag} {mg : Str → Option Value} {base : Heap}
theorem ok_tk {f : Addr} {fd : FuncData} (F : Fun K "_tokens" "_tokens" sTk f fd) : FnOk P w K mg base CX0 1 f fd ["text"] spTk := by
  refine F.ok scTk (fun vs H Q E h => ?_) (fun cdv A outer s H vs Q E hr h => ?_)
  · obtain ⟨s, rfl, _⟩ := h
    rfl
  · obtain ⟨s, rfl, ls, k⟩ := h
    refine ⟨_, pss_cons (ps_set (i := 1) scTk.nd rfl (.inl rfl) (pe_lst pa_nil))
      (pss_cons (ps_set (i := 2) scTk.nd rfl (.inl rfl) pe_str)
      (pss_cons (ps_for PassesOwn.never rfl (pi_str (pv 0)) (pg_name (i := 3) scTk.nd rfl (.inl rfl))
        (pss_one (ps_if (pt_cmpR op_in_sign (pv 3) pe_str (by rfl))
          (pss_one (ps_aug (i := 2) scTk.nd rfl (.inl rfl) (pv 3) iop_add_str))
          (C8.pss_cut (ps_if (pt_truth (pv 2) (by intro _; rfl))
            (pss_one (ps_expr (pe_bm PySem.F.plainAttrs_list PySem.F.slot_list_append PySem.F.type_list_append mt_append (pv 1) (pa_cons (pv 2) pa_nil))))
            pss_nil)
          (pss_cons (ps_set (i := 2) scTk.nd rfl (.inl rfl) pe_str)
          (pss_one (ps_expr (pe_bm PySem.F.plainAttrs_list PySem.F.slot_list_append PySem.F.type_list_append mt_append (pv 1) (pa_cons (pv 3) pa_nil)))))))))
      (pss_one (ps_ret (pe_ifExp (pt_truth (pv 2) (by intro _; rfl)) (pe_op op_cat (pv 1) (pe_lst (pa_cons (pv 2) pa_nil))) (pv 1)))))), ?_⟩
    refine ⟨(by show 0 ≤ sizeLine; decide), fun D nD => ?_⟩
    have s1 := Same.upd (o := .lst []) nD
    have hD := upd_same (H := H) (a := D) (o := .lst [])
    generalize upd H D (.lst []) = H1 at *
    have lk := tk_len (cl s) []
    rw [cl_len] at lk
    refine ⟨_, rfl, s, rfl, for_it (walk_str (z := s)) (fun i σ G => ∃ (F : List (List Nat)) (ds : List Nat) (o : Option V), σ = [some (.str s), some (.ref D), some (.str (SX.S ds)), o] ∧ G D = some (.lst (txs F)) ∧ F ++ tk ((cl s).drop i) ds = tk (cl s) [] ∧ ds.length ≤ i ∧ Same H G)
      ⟨[], [], none, rfl, hD, rfl, Nat.le_refl _, s1⟩ (fun _ _ _ _ _ => trivial) ?_ ?_⟩
    · rintro i x σ G G2 hi ⟨F, ds, o, rfl, hG, hF, hds, sG⟩ ⟨rfl, c, hc, rfl⟩
      have hc1 := cl_at hc
      have ed : (cl s).drop i = c :: (cl s).drop (i + 1) := (List.drop_eq_getElem_cons (List.getElem?_eq_some_iff.mp hc1).1).trans (by rw [(List.getElem?_eq_some_iff.mp hc1).2])
      have hi4 : i < 400 := Nat.lt_of_lt_of_le hi ls
      have lF : F.length ≤ 900 := by
        have := congrArg List.length hF
        rw [List.length_append] at this
        omega
      rw [ed] at hF
      refine ⟨_, rfl, c, _, rfl, rfl, _, rfl, ?_⟩
      by_cases h : c = 45 ∨ (47 ≤ c ∧ c ≤ 57)
      · refine iteT' (decide_eq_true (digs_in.mpr h)) ?_
        rw [tk_dig h] at hF
        refine ⟨_, rfl, _, rfl, _, _, rfl, rfl, ?_, ?_⟩
        · show ds.toArray.size + 1 ≤ _
          rw [List.size_toArray]
          exact line_le (by omega)
        refine ⟨F, ds ++ [c], some (.str (sg c)), ?_, hG, hF, by rw [List.length_append, List.length_singleton]; omega, sG⟩
        rw [← S_app]
        rfl
      · refine iteF' (decide_eq_false fun z => h (digs_in.mp z)) ?_
        rw [tk_oth h] at hF
        refine ⟨fun σ' G' => ∃ F' : List (List Nat), σ' = [some (.str s), some (.ref D), some (.str (SX.S ds)), some (.str (sg c))] ∧ G' D = some (.lst (txs F')) ∧ F' ++ ([c] :: tk ((cl s).drop (i + 1)) []) = tk (cl s) [] ∧ Same H G', ?_, ?_⟩
        · refine ⟨_, rfl, _, ⟨?_, rfl⟩, ?_⟩
          · show ds.toArray.size ≤ _
            rw [List.size_toArray]
            exact line_le (by omega)
          by_cases h0 : ds = []
          · subst h0
            rw [if_pos rfl] at hF
            exact iteF' rfl ⟨F, rfl, hG, hF, sG⟩
          · rw [if_neg h0] at hF
            refine iteT' ?_ ?_
            · show ((ds.toArray.size : Int) != 0) = true
              rw [List.size_toArray]
              cases ds with
              | nil => exact absurd rfl h0
              | cons a ds => simp; omega
            refine ⟨_, rfl, .inl ⟨rfl, _, SqL.of hG⟩, _, rfl, D, _, _, rfl, rfl, hG, ?_, ?_⟩
            · unfold txs; rw [List.length_map]; exact small1000 (by omega)
            refine ⟨F ++ [ds], rfl, by rw [upd_same, txs_app]; rfl, by rw [List.append_assoc]; exact hF, fun b o' hb => by rw [upd_ne (ne_of_none hb nD)]; exact sG _ _ hb⟩
        rintro σ' G' ⟨F', rfl, hG', hF', sG'⟩
        have lF : F'.length ≤ 900 := by
          have := congrArg List.length hF'
          rw [List.length_append] at this
          omega
        refine ⟨_, rfl, .inl ⟨rfl, _, SqL.of hG'⟩, _, rfl, D, _, _, rfl, rfl, hG', ?_, ?_⟩
        · unfold txs; rw [List.length_map]; exact small1000 (by omega)
        refine ⟨F' ++ [[c]], [], _, rfl, by rw [upd_same, txs_app]; rfl, by rw [List.append_assoc]; exact hF', Nat.zero_le _, fun b o' hb => by rw [upd_ne (ne_of_none hb nD)]; exact sG' _ _ hb⟩
    · rintro σ G ⟨F, ds, o, rfl, hG, hF, hds, sG⟩
      have e0 : (cl s).drop s.cps.size = [] := List.drop_of_length_le (Nat.le_refl _)
      rw [e0] at hF
      have hF : F ++ (if ds = [] then [] else [ds]) = tk (cl s) [] := hF
      have ls' : s.cps.size ≤ 400 := ls
      have lF : F.length ≤ 900 := by
        have := congrArg List.length hF
        rw [List.length_append] at this
        omega
      refine ⟨_, rfl, _, ⟨?_, rfl⟩, ?_⟩
      · show ds.toArray.size ≤ _
        rw [List.size_toArray]
        exact line_le (by omega)
      by_cases h0 : ds = []
      · subst h0
        rw [if_pos rfl, List.append_nil] at hF
        refine iteF' rfl ?_
        rw [hF] at hG
        exact ⟨_, rfl, k D G sG nD hG⟩
      · rw [if_neg h0] at hF
        refine iteT' ?_ ?_
        · show ((ds.toArray.size : Int) != 0) = true
          rw [List.size_toArray]
          cases ds with
          | nil => exact absurd rfl h0
          | cons a ds => simp; omega
        refine ⟨_, rfl, _, rfl, (by show 1 ≤ sizeLine; decide), fun l nl => ?_⟩
        have s2 := Same.upd (o := .lst [.str (SX.S ds)]) nl
        have hl := upd_same (H := G) (a := l) (o := .lst [.str (SX.S ds)])
        have hG2 := s2 _ _ hG
        have sG2 := sG.trans s2
        generalize upd G l (.lst [.str (SX.S ds)]) = G2 at *
        refine ⟨D, l, _, _, rfl, rfl, hG2, hl, ?_, fun r nr => ?_⟩
        · unfold txs; rw [List.length_map]; exact line_le (by rw [List.length_singleton]; omega)
        refine k r _ (sG2.trans (Same.upd nr)) ((Same.keep (N := Emp) sG2).free nr) ?_
        rw [upd_same, ← hF, txs_app]
        rfl
theorem ok_tw {f C : Addr} {fd : FuncData} (F : Fun K "_two" "_two" sTw f fd) : FnOk P w K mg base CX0 1 f fd ["kind", "one", "other"] (spTw C) := by
  refine F.ok scTw (fun vs H Q E h => ?_) (fun cdv A outer s H vs Q E hr h => ?_)
  · obtain ⟨N, v, u, o, t, k', n', rfl, _⟩ := h
    rfl
  · obtain ⟨N, v, u, o, t, k', n', rfl, hk, hv, hu, al, k⟩ := h
    refine ⟨_, pss_one (ps_ret (pe_ifExp (pt_cmpR op_isN1 (pv 1) pe_non (nomark _)) (pv 2) (pe_tup (pa_cons (pv 0) (pa_cons (pv 1) (pa_cons (pv 2) pa_nil)))))), ?_⟩
    cases o with
    | none =>
      cases hv
      refine ⟨_, rfl, rfl, _, rfl, iteT' (decide_eq_true rfl) ?_⟩
      exact ⟨_, rfl, k u H (Same.refl _) hu⟩
    | some a =>
      obtain ⟨p, rfl⟩ := made_ref (t := a) hv
      refine ⟨_, rfl, rfl, _, rfl, iteF' (decide_eq_false (fun z => nomatch z)) ?_⟩
      refine ⟨_, rfl, _, rfl, _, rfl, (by show 3 ≤ sizeLine; decide), fun r nr => ?_⟩
      refine k (.ref r) _ (Same.upd nr) ?_
      rcases hk with ⟨rfl, rfl⟩ | ⟨rfl, rfl⟩
      · exact mk_two al nr hv hu
      · exact mk_two al nr hv hu
end
end RX

set_option Elab.async false
set_option maxRecDepth 100000
set_option exponentiation.threshold 100000
namespace RX
open PySem L2 AU NumText
theorem alpha_no : ∀ c, c < 58 → 45 ≤ c → Unicode.isAlpha c = false := by decide +kernel
theorem alpha_yes : ∀ c, c < 101 → 97 ≤ c → Txt.isalpha (sg c) = true := by decide +kernel
theorem not_alpha {c : Nat} {l : List Nat} (h : c < 58) (h2 : 45 ≤ c) : Txt.isalpha (SX.S (c :: l)) = false := by
  unfold Txt.isalpha
  have : ((SX.S (c :: l)).cps.all Unicode.isAlpha) = false := by
    rw [← Array.all_toList]
    show ((c :: l).toArray.toList.all Unicode.isAlpha) = false
    show (c :: l).all Unicode.isAlpha = false
    rw [List.all_cons, alpha_no c h h2, Bool.false_and]
  rw [this, Bool.and_false]
theorem intF_head {T : List Nat} {n : Int} (h : IntF T n) : ∃ c l, T = c :: l ∧ c < 58 ∧ 45 ≤ c := by
  rcases h with ⟨a, b, _⟩ | ⟨cs, rfl, _⟩
  · cases T with
    | nil => exact absurd rfl b
    | cons c l =>
      have := a c (List.mem_cons_self ..)
      exact ⟨c, l, rfl, by omega, by omega⟩
  · exact ⟨45, cs, rfl, by decide, by decide⟩
theorem intF_no {T : List Nat} {n : Int} (h : IntF T n) : 47 ∉ T := by
  rcases h with ⟨a, _, _⟩ | ⟨cs, rfl, a, _⟩
  · intro z
    have := a 47 z
    omega
  · intro z
    rcases List.mem_cons.mp z with z | z
    · cases z
    · have := a 47 z
      omega
theorem intF_text {T : List Nat} {n : Int} (h : IntF T n) (l : T.length ≤ 4300) : intText? (SX.S T) = some n := by
  have e : (SX.S T).cps.toList = T := List.toList_toArray
  have el : (SX.S T).length = T.length := List.size_toArray
  rcases h with ⟨a, b, rfl⟩ | ⟨cs, hT, a, b, rfl⟩
  · have := intText_digits (x := SX.S T) (by rw [e]; exact a) (by rw [e]; exact b) (by rw [el]; exact l)
    rw [e] at this
    exact this
  · exact intText_neg (x := SX.S T) (cs := cs) (by rw [e]; exact hT) a b (by rw [el]; exact l)
theorem dig_text {B : List Nat} (a : AllDigits B) (b : B ≠ []) (l : B.length ≤ 4300) : intText? (SX.S B) = some ((digitsVal B : Nat) : Int) := intF_text (.inl ⟨a, b, rfl⟩) l
theorem dv_lt : ∀ (B : List Nat), AllDigits B → digitsVal B < 10 ^ B.length := by
  intro B
  have gen : ∀ (l : List Nat), AllDigits l.reverse → digitsVal l.reverse < 10 ^ l.length := fun l => by
    induction l with
    | nil => intro _; exact Nat.zero_lt_one
    | cons c l ih =>
      intro h
      rw [List.reverse_cons] at h ⊢
      have h1 : AllDigits l.reverse := fun x hx => h x (List.mem_append_left _ hx)
      have h2 := h c (List.mem_append_right _ (List.mem_singleton.mpr rfl))
      have := ih h1
      rw [dv_app, List.length_cons, Nat.pow_succ]
      omega
  intro h
  have := gen B.reverse (by rw [List.reverse_reverse]; exact h)
  rw [List.reverse_reverse, List.length_reverse] at this
  exact this
theorem rat_of {n d : Int} (h : d ≠ 0) : RT.top n d = ((n : Rat) / (d : Rat)).num ∧ RT.bot n d = ((((n : Rat) / (d : Rat)).den : Nat) : Int) := by
  have hd : (d : Rat) ≠ 0 := fun z => h (by exact_mod_cast z)
  exact RQ.low h (by rw [Rat.div_mul_cancel hd])
section
variable {P : Program} {w : World} {K : PySem.W.Frag} {mg : Str → Option Value} {base : Heap}
theorem ok_le {f fI C : Addr} {fd dI : FuncData} (F : Fun K "_leaf" "_leaf" sLe f fd) (T : TxtL mg) (TR : TxtR K mg C) (M : Mk K C fI) (GI : FnOk P w K mg base CX0 1 fI dI ["self", "top", "bottom"] (spInit C)) (bI : Binds K dI ["self", "top", "bottom"] []) : FnOk P w K mg base CX0 3 f fd ["token"] (spLe C) := by
  refine F.ok scLe (fun vs H Q E h => ?_) (fun cdv A outer s H vs Q E hr h => ?_)
  · obtain ⟨N, tok, t, rfl, _⟩ := h
    rfl
  · obtain ⟨N, tok, t, rfl, hl, l4, al, k⟩ := h
    have hr2 : Room 2 _ := hr
    refine ⟨_, pss_cons (ps_if (pt_val (pe_bm0 PySem.F.plainAttrs_str PySem.F.slot_str_isalpha PySem.F.type_str_isalpha mt_isalpha (pv 0)))
        (pss_one (ps_ret (pe_tup (pa_cons pe_str (pa_cons (pv 0) pa_nil)))))
        pss_nil)
      (pss_cons (ps_asg (pe_bm PySem.F.plainAttrs_str PySem.F.slot_str_partition PySem.F.type_str_partition mt_partition (pv 0) (pa_cons pe_str pa_nil)) (pg_tup rfl (pgs_cons (pg_name (i := 1) scLe.nd rfl (.inl rfl)) (pgs_cons (pg_name (i := 2) scLe.nd rfl (.inl rfl)) (pgs_cons (pg_name (i := 3) scLe.nd rfl (.inl rfl)) pgs_nil)))))
      (pss_one (ps_ret (pe_tup (pa_cons pe_str (pa_cons (pe_make M GI hr2 rfl TR.mgC bI .nil pass0 (pa_cons (pe_callTy call_int_str (by rfl) T.int (by decide +kernel) (pa_cons (pv 1) pa_nil)) (pa_cons (pe_callTy call_int_str (by rfl) T.int (by decide +kernel) (pa_cons (pe_orT (pv 3) (pe_one pe_str)) pa_nil)) pa_nil))) pa_nil)))))), ?_⟩
    have big : ∀ {B : List Nat}, AllDigits B → B.length ≤ 401 → Md ((digitsVal B : Nat) : Int) := fun {B} a l => by
      show digitsVal B < 2 ^ 8900
      have h1 := dv_lt B a
      have h2 : (10 : Nat) ^ B.length ≤ 16 ^ 401 := Nat.le_trans (Nat.pow_le_pow_right (by decide) l) (Nat.pow_le_pow_left (by decide) _)
      have h3 : (16 : Nat) ^ 401 ≤ 2 ^ 8900 := by
        rw [show (16 : Nat) = 2 ^ 4 from rfl, ← Nat.pow_mul]
        exact Nat.pow_le_pow_right (by decide) (by decide)
      omega
    cases hl with
    | letter h =>
      rename_i c
      refine ⟨_, rfl, rfl, _, rfl, rfl, trivial, _, rfl, iteT' (alpha_yes c (by omega) h.1) ?_⟩
      refine ⟨_, rfl, (by show 2 ≤ sizeLine; decide), fun r nr => ?_⟩
      exact k (.ref r) _ (Same.upd nr) (mk_one al nr (.str _))
    | int h =>
      obtain ⟨c, l, ht, c1, c2⟩ := intF_head h
      refine ⟨_, rfl, rfl, _, rfl, rfl, trivial, _, rfl, iteF' (by rw [ht]; exact not_alpha c1 c2) ?_⟩
      have lt : (SX.S tok).length = tok.length := List.size_toArray
      refine ⟨_, rfl, rfl, _, _, rfl, rfl, rfl, line_le (by rw [lt]; omega), fun p np => ?_⟩
      rw [show Txt.partition (SX.S tok) (Str.ofString "/") = (SX.S tok, SX.S [], SX.S []) from SX.partition_none (b := [47]) (by simp) (TL.par_none1 (intF_no h))]
      have s1 := Same.upd (o := .tup [.str (SX.S tok), .str (SX.S []), .str (SX.S [])]) np
      refine ⟨p, _, rfl, SqT.of upd_same, rfl, _, _, rfl, _, _, rfl, _, _, rfl, rfl, ?_⟩
      generalize upd H p (.tup [.str (SX.S tok), .str (SX.S []), .str (SX.S [])]) = H1 at *
      refine ⟨_, rfl, _, _, rfl, intF_text h (by omega), by rw [lt]; omega, _, rfl, false, ⟨by show 0 ≤ sizeLine; decide, rfl⟩, iteF' rfl ?_⟩
      refine ⟨_, (1 : Int), rfl, dig_text (B := [49]) (ad_one (by decide)) (by simp) (by decide), by decide, ?_⟩
      refine fun x dx nx nd ne => ⟨x, dx, _, _, rfl, upd_same, (by decide), (pw (by decide) (show (1 : Int).natAbs < 2 ^ 1 by decide)), fun H2 hR kp => ⟨rfl, (by show 2 ≤ sizeLine; decide), fun r nr => ?_⟩⟩
      have s2 := Same.made nx nd kp
      have al1 := al.keep (Same.keep (N := N) s1)
      have al2 := al1.keep (Same.keep (N := N) s2)
      obtain ⟨e1, e2⟩ := rat_of (n := _) (d := 1) (by decide)
      rw [e1, e2] at hR
      exact k (.ref r) _ (s1.trans (s2.trans (Same.upd nr))) (mk_one al2 nr (.rat hR (al1.fresh nx)))
    | frac h a ne nz =>
      rename_i T' B n
      obtain ⟨c, l, ht, c1, c2⟩ := intF_head h
      rw [List.length_append, List.length_cons] at l4
      refine ⟨_, rfl, rfl, _, rfl, rfl, trivial, _, rfl, iteF' (by rw [ht]; exact not_alpha c1 c2) ?_⟩
      have lt : (SX.S (T' ++ 47 :: B)).length = T'.length + (B.length + 1) := by
        show (T' ++ 47 :: B).toArray.size = _
        rw [List.size_toArray, List.length_append, List.length_cons]
      have lT : (SX.S T').length = T'.length := List.size_toArray
      have lB : (SX.S B).length = B.length := List.size_toArray
      refine ⟨_, rfl, rfl, _, _, rfl, rfl, rfl, line_le (by rw [lt]; omega), fun p np => ?_⟩
      rw [show Txt.partition (SX.S (T' ++ 47 :: B)) (Str.ofString "/") = (SX.S T', SX.S [47], SX.S B) from SX.partition_some (b := [47]) (by simp) (TL.par_part1 (s := 47) (S := []) (acc := []) (rest := B) (intF_no h))]
      have s1 := Same.upd (o := .tup [.str (SX.S T'), .str (SX.S [47]), .str (SX.S B)]) np
      refine ⟨p, _, rfl, SqT.of upd_same, rfl, _, _, rfl, _, _, rfl, _, _, rfl, rfl, ?_⟩
      generalize upd H p (.tup [.str (SX.S T'), .str (SX.S [47]), .str (SX.S B)]) = H1 at *
      have hB : true = (((SX.S B).length : Int) != 0) := by
        rw [lB]
        cases B with
        | nil => exact absurd rfl ne
        | cons x y => simp; omega
      refine ⟨_, rfl, _, _, rfl, intF_text h (by omega), by rw [lT]; omega, _, rfl, true, ⟨line_le (by rw [lB]; omega), hB⟩, iteT' rfl ?_⟩
      refine ⟨_, _, rfl, dig_text a ne (by omega), by rw [lB]; omega, ?_⟩
      have nz' : ((digitsVal B : Nat) : Int) ≠ 0 := by omega
      refine fun x dx nx nd ne => ⟨x, dx, _, _, rfl, upd_same, nz', (big a (by omega)), fun H2 hR kp => ⟨rfl, (by show 2 ≤ sizeLine; decide), fun r nr => ?_⟩⟩
      have s2 := Same.made nx nd kp
      have al1 := al.keep (Same.keep (N := N) s1)
      have al2 := al1.keep (Same.keep (N := N) s2)
      obtain ⟨e1, e2⟩ := rat_of (n := _) (d := ((digitsVal B : Nat) : Int)) nz'
      rw [e1, e2] at hR
      exact k (.ref r) _ (s1.trans (s2.trans (Same.upd nr))) (mk_one al2 nr (.rat hR (al1.fresh nx)))
end
end RX

set_option Elab.async false
set_option maxRecDepth 100000
namespace RX
open PySem L2 AU NumText
abbrev sBt : Stmt := topS 25
theorem scBt : FnScope ["tokens", "outer", "done", "row", "part", "token"] ["tokens"] (defScope sBt) := ⟨rfl, rfl, rfl, by decide +kernel, rfl, by decide +kernel, by decide +kernel⟩
theorem leaf_head {tok : List Nat} {t : Tm} (h : LeafOf tok t) : ∃ c l, tok = c :: l ∧ (c = 45 ∨ 48 ≤ c) := by
  have hi : ∀ {T : List Nat} {n : Int}, IntF T n → ∃ c l, T = c :: l ∧ (c = 45 ∨ 48 ≤ c) := fun {T n} h => by
    rcases h with ⟨a, b, _⟩ | ⟨cs, rfl, _⟩
    · cases T with
      | nil => exact absurd rfl b
      | cons c l => exact ⟨c, l, rfl, .inr (a c (List.mem_cons_self ..)).1⟩
    · exact ⟨45, cs, rfl, .inl rfl⟩
  cases h with
  | letter h => exact ⟨_, [], rfl, .inr (by omega)⟩
  | int h => exact hi h
  | frac h a ne nz =>
    obtain ⟨c, l, rfl, hc⟩ := hi h
    exact ⟨c, _, rfl, hc⟩
theorem S_ne {tok : List Nat} {n : Nat} {z : Str} (hz : z = sg n) (h : tok ≠ [n]) : ¬ SX.S tok = z := fun e => h (by
  have := congrArg cl (e.trans hz)
  have e2 : cl (SX.S tok) = tok := List.toList_toArray
  rw [e2] at this
  exact this)
def pairO (e : Option Tm × Option Tm) : Dat := .tup [optD e.1, optD e.2]
def spBt (C : Addr) : Sp := fun vs H Q _ => ∃ (N : Addr → Prop) (p : Addr) (toks : List (List Nat)) (d r : Option Tm) (x : Tm), vs = [.ref p] ∧ H p = some (.lst (txs toks)) ∧ Run ⟨[], none, none, none⟩ toks ⟨[], d, r, some x⟩ ∧ Alc N H ∧ toks.length ≤ 900 ∧ (∀ t ∈ toks, t.length ≤ 401) ∧
  ∀ (v : V) (H' : Hp), Same H H' → At C N H' v (whole d r x).made → Q v H'
section
variable {P : Program} {w : World} {K : PySem.W.Frag} {mg : Str → Option Value} {base : Heap}
theorem ok_bt {f fT fL C : Addr} {fd dT dL : FuncData} (F : Fun K "_built" "_built" sBt f fd) (cTw : CalN P w K mg base "_two" 1 ["kind", "one", "other"] (spTw C) fT dT) (cLe : CalN P w K mg base "_leaf" 3 ["token"] (spLe C) fL dL) : FnOk P w K mg base CX0 4 f fd ["tokens"] (spBt C) := by
  refine F.ok scBt (fun vs H Q E h => ?_) (fun cdv A outer s H vs Q E hr h => ?_)
  · obtain ⟨N, p, toks, d, r, x, rfl, _⟩ := h
    rfl
  · obtain ⟨N, p, toks, d, r, x, rfl, hp, hrun, al, l9, l4, k⟩ := h
    have hr1 : Room 1 _ := hr.mono (by decide)
    have hr3 : Room 3 _ := hr
    refine ⟨_, pss_cons (ps_set (i := 1) scBt.nd rfl (.inl rfl) (pe_lst pa_nil))
      (pss_cons (ps_asg (pe_tup (pa_cons pe_non (pa_cons pe_non (pa_cons pe_non pa_nil)))) (pg_tup rfl (pgs_cons (pg_name (i := 2) scBt.nd rfl (.inl rfl)) (pgs_cons (pg_name (i := 3) scBt.nd rfl (.inl rfl)) (pgs_cons (pg_name (i := 4) scBt.nd rfl (.inl rfl)) pgs_nil)))))
      (pss_cons (ps_for PassesOwn.never rfl (pi_list (pv 0)) (pg_name (i := 5) scBt.nd rfl (.inl rfl))
        (pss_one (ps_if (pt_cmpR op_eq (pv 5) pe_str (nomark _))
          (pss_cons (ps_expr (pe_bm PySem.F.plainAttrs_list PySem.F.slot_list_append PySem.F.type_list_append mt_append (pv 1) (pa_cons (pe_tup (pa_cons (pv 2) (pa_cons (pv 3) pa_nil))) pa_nil)))
          (pss_one (ps_asg (pe_tup (pa_cons pe_non (pa_cons pe_non pa_nil))) (pg_tup rfl (pgs_cons (pg_name (i := 2) scBt.nd rfl (.inl rfl)) (pgs_cons (pg_name (i := 3) scBt.nd rfl (.inl rfl)) pgs_nil))))))
          (pss_one (ps_if (pt_cmpR op_eq (pv 5) pe_str (nomark _))
            (pss_cons (ps_set (i := 4) scBt.nd rfl (.inl rfl) (pe_call cTw.G hr1 rfl cTw.m cTw.kp cTw.b .nil pass0 (pa_cons pe_str (pa_cons (pv 2) (pa_cons (pe_call cTw.G hr1 rfl cTw.m cTw.kp cTw.b .nil pass0 (pa_cons pe_str (pa_cons (pv 3) (pa_cons (pv 4) pa_nil)))) pa_nil)))))
            (pss_one (ps_asg (pe_bm0 PySem.F.plainAttrs_list PySem.F.slot_list_pop PySem.F.type_list_pop mt_pop (pv 1)) (pg_tup rfl (pgs_cons (pg_name (i := 2) scBt.nd rfl (.inl rfl)) (pgs_cons (pg_name (i := 3) scBt.nd rfl (.inl rfl)) pgs_nil))))))
            (pss_one (ps_if (pt_cmpR op_eq (pv 5) pe_str (nomark _))
              (pss_one (ps_set (i := 4) scBt.nd rfl (.inl rfl) (pe_tup (pa_cons pe_str (pa_cons (pv 4) pa_nil)))))
              (pss_one (ps_if (pt_cmpR op_eq (pv 5) pe_str (nomark _))
                (pss_one (ps_set (i := 3) scBt.nd rfl (.inl rfl) (pe_call cTw.G hr1 rfl cTw.m cTw.kp cTw.b .nil pass0 (pa_cons pe_str (pa_cons (pv 3) (pa_cons (pv 4) pa_nil))))))
                (pss_one (ps_if (pt_cmpR op_eq (pv 5) pe_str (nomark _))
                  (pss_one (ps_par (i := 2) (j := 3) (by rfl) scBt.nd rfl rfl (by decide) rfl rfl (pa_cons (pe_call cTw.G hr1 rfl cTw.m cTw.kp cTw.b .nil pass0 (pa_cons pe_str (pa_cons (pv 2) (pa_cons (pe_call cTw.G hr1 rfl cTw.m cTw.kp cTw.b .nil pass0 (pa_cons pe_str (pa_cons (pv 3) (pa_cons (pv 4) pa_nil)))) pa_nil)))) (pa_cons pe_non pa_nil)) (by rfl)))
                  (pss_one (ps_set (i := 4) scBt.nd rfl (.inl rfl) (pe_call cLe.G hr3 rfl cLe.m cLe.kp cLe.b .nil pass0 (pa_cons (pv 5) pa_nil)))))))))))))))
      (pss_one (ps_ret (pe_call cTw.G hr1 rfl cTw.m cTw.kp cTw.b .nil pass0 (pa_cons pe_str (pa_cons (pv 2) (pa_cons (pe_call cTw.G hr1 rfl cTw.m cTw.kp cTw.b .nil pass0 (pa_cons pe_str (pa_cons (pv 3) (pa_cons (pv 4) pa_nil)))) pa_nil)))))))), ?_⟩
    refine ⟨(by show 0 ≤ sizeLine; decide), fun D nD => ?_⟩
    have s1 := Same.upd (o := .lst []) nD
    have hD := upd_same (H := H) (a := D) (o := .lst [])
    have al1 : Alc (And1 N D) (upd H D (.lst [])) := (al.keep (Same.keep (N := N) s1)).and (by rw [hD]; intro z; cases z)
    generalize upd H D (.lst []) = H1 at *
    refine ⟨(by show 3 ≤ sizeLine; decide), fun l nl => ⟨l, _, rfl, SqT.of upd_same, rfl, _, _, rfl, _, _, rfl, _, _, rfl, rfl, ?_⟩⟩
    have s2 := Same.upd (o := .tup [V.non, V.non, V.non]) nl
    have hD := s2 _ _ hD
    have al2 := al1.keep (Same.keep (N := And1 N D) s2)
    have s12 := s1.trans s2
    generalize upd H1 l (.tup [V.non, V.non, V.non]) = H2 at *
    have lt : (txs toks).length = toks.length := List.length_map _
    refine ⟨_, rfl, p, rfl, ⟨_, SqL.of (s12 _ _ hp)⟩, for_it (walk_list (K := K) (a := p) (xs := txs toks)) (fun i σ G => ∃ (b : BS) (vd vr vp : V) (o5 : Option V) (xs : List V), σ = [some (.ref p), some (.ref D), some vd, some vr, some vp, o5] ∧ G D = some (.lst xs) ∧ Its C (And1 N D) G xs (b.o.map pairO) ∧ At C (And1 N D) G vd (optD b.d) ∧ At C (And1 N D) G vr (optD b.r) ∧ At C (And1 N D) G vp (optD b.p) ∧ Run b (toks.drop i) ⟨[], d, r, some x⟩ ∧ b.o.length ≤ i ∧ Same H G ∧ Alc (And1 N D) G)
      ⟨⟨[], none, none, none⟩, .non, .non, .non, none, [], rfl, hD, Its.nil, .non, .non, .non, hrun, Nat.le_refl _, s12, al2⟩ (fun i σ G _ h => by obtain ⟨_, _, _, _, _, _, _, _, _, _, _, _, _, _, sG, _⟩ := h; exact SqL.of (sG _ _ hp)) ?_ ?_⟩
    · rintro i y σ G0 G hi ⟨b, vd, vr, vp, o5, xs, rfl, hD, hI, hd, hr', hp', run, lo, sG, al3⟩ ⟨rfl, hy⟩
      rw [lt] at hi
      have ht : toks[i]? = some (toks[i]'hi) := List.getElem?_eq_getElem hi
      have ltok := l4 _ (List.getElem_mem hi)
      have hy' : (txs toks)[i]? = some (V.str (SX.S (toks[i]'hi))) := by unfold txs; rw [List.getElem?_map, ht]; rfl
      rw [hy'] at hy
      obtain rfl := Option.some.inj hy
      have ed : toks.drop i = toks[i]'hi :: toks.drop (i + 1) := List.drop_eq_getElem_cons hi
      rw [ed] at run
      obtain ⟨b1, act, run⟩ := run
      generalize toks[i]'hi = tok at *
      have lx : xs.length = b.o.length := by rw [hI.1, List.length_map]
      have kD : ∀ {G' : Hp} {ys : List V}, Keep (And1 N D) G' (upd G' D (.lst ys)) := Keep.upd (.inr rfl)
      have sD : ∀ {G' : Hp} {o : HO}, Same H G' → Same H (upd G' D o) := fun s c o hc => by rw [upd_ne (ne_of_none hc nD)]; exact s _ _ hc
      cases act with
      | opn =>
        rename_i o dn rw' pt
        refine ⟨_, rfl, rfl, _, rfl, iteT' (seqT e40.symm) ?_⟩
        refine ⟨_, rfl, .inl ⟨rfl, _, SqL.of hD⟩, _, rfl, _, rfl, (by show 2 ≤ sizeLine; decide), fun l nl => ?_⟩
        have s3 := Same.upd (o := .tup [vd, vr]) nl
        have hnew : At C (And1 N D) (upd G l (.tup [vd, vr])) (.ref l) (pairO (dn, rw')) := At.newT al3 nl rfl (itemsC hd (items1 hr'))
        have hD3 := s3 _ _ hD
        have hI3 := hI.keep (Same.keep s3)
        have hp3 := hp'.same s3
        have al4 := al3.keep (Same.keep (N := And1 N D) s3)
        have sG3 := sG.trans s3
        generalize upd G l (.tup [vd, vr]) = G3 at *
        refine ⟨D, xs, _, rfl, rfl, hD3, small1000 (by have : o.length ≤ i := lo; have : xs.length = o.length := lx; omega), ?_⟩
        have hI4 := (hI3.app (Its.cons hnew Its.nil)).keep (kD (ys := xs ++ [.ref l]))
        have hp4 := hp3.keep (kD (G' := G3) (ys := xs ++ [.ref l]))
        have al5 := al4.keep (kD (G' := G3) (ys := xs ++ [.ref l]))
        have sG4 := sD (o := .lst (xs ++ [.ref l])) sG3
        have hD4 := upd_same (H := G3) (a := D) (o := .lst (xs ++ [.ref l]))
        generalize upd G3 D (.lst (xs ++ [.ref l])) = G4 at *
        refine ⟨(by show 2 ≤ sizeLine; decide), fun l2 nl2 => ⟨l2, _, rfl, SqT.of upd_same, rfl, _, _, rfl, _, _, rfl, rfl, ?_⟩⟩
        have s5 := Same.upd (o := .tup [V.non, V.non]) nl2
        refine ⟨⟨o ++ [(dn, rw')], none, none, pt⟩, .non, .non, vp, some (.str (SX.S [40])), _, rfl, s5 _ _ hD4, ?_, .non, .non, hp4.same s5, run, ?_, sG4.trans s5, al5.keep (Same.keep (N := And1 N D) s5)⟩
        · show Its C _ _ _ ((o ++ [(dn, rw')]).map pairO)
          rw [List.map_append]
          exact hI4.keep (Same.keep s5)
        · show (o ++ [(dn, rw')]).length ≤ i + 1
          rw [List.length_append]
          have : o.length ≤ i := lo
          show o.length + 1 ≤ i + 1
          omega
      | cls =>
        rename_i o d' r' dn rw' z
        refine ⟨_, rfl, rfl, _, rfl, iteF' (seqF (S_ne e40 (by decide))) ?_⟩
        refine ⟨_, rfl, rfl, _, rfl, iteT' (seqT e41.symm) ?_⟩
        refine ⟨_, rfl, _, rfl, _, rfl, And1 N D, vr, vp, rw', z, .row, _, rfl, .inr ⟨rfl, rfl⟩, hr', hp', al3, fun v1 G3 s3 h1 => ?_⟩
        have al4 := al3.keep (Same.keep (N := And1 N D) s3)
        refine ⟨And1 N D, vd, v1, dn, _, .plus, _, rfl, .inl ⟨rfl, rfl⟩, hd.same s3, h1, al4, fun v2 G4 s4 h2 => ?_⟩
        have s34 := s3.trans s4
        have hD4 := s34 _ _ hD
        have hI4 := hI.keep (Same.keep (N := And1 N D) s34)
        have hx0 : xs ≠ [] := fun z => by
          have lx : xs.length = (o ++ [(d', r')]).length := lx
          rw [z, List.length_append] at lx
          simp at lx
        obtain ⟨xs, y, rfl⟩ : ∃ l0 y, xs = l0 ++ [y] := ⟨xs.dropLast, xs.getLast hx0, (List.dropLast_concat_getLast hx0).symm⟩
        have lx : xs.length = o.length := by
          have lx : (xs ++ [y]).length = (o ++ [(d', r')]).length := lx
          rw [List.length_append, List.length_append] at lx
          simpa using lx
        have hI5 : Its C (And1 N D) G4 (xs ++ [y]) (o.map pairO ++ [pairO (d', r')]) := by
          have : (o ++ [(d', r')]).map pairO = o.map pairO ++ [pairO (d', r')] := List.map_append
          rw [← this]
          exact hI4
        have hI0 : Its C (And1 N D) G4 xs (o.map pairO) := by
          have := hI5.take xs.length
          rw [List.take_left] at this
          rw [show xs.length = (o.map pairO).length by rw [List.length_map, lx], List.take_left] at this
          exact this
        have hyy : At C (And1 N D) G4 y (pairO (d', r')) := hI5.2 xs.length y _ (by rw [List.getElem?_append_right (Nat.le_refl _), Nat.sub_self]; rfl) (by rw [List.getElem?_append_right (by rw [List.length_map]; omega), List.length_map, lx, Nat.sub_self]; rfl)
        have hlast : (xs ++ [y])[(xs ++ [y]).length - 1]? = some y := by
          rw [List.length_append, List.length_singleton, Nat.add_sub_cancel, List.getElem?_append_right (Nat.le_refl _), Nat.sub_self]
          rfl
        refine ⟨_, rfl, .inl ⟨rfl, _, SqL.of hD4⟩, D, _, y, rfl, rfl, hD4, hlast, ?_⟩
        rw [List.dropLast_concat]
        have hI6 := hI0.keep (kD (ys := xs))
        have hy6 := hyy.keep (kD (G' := G4) (ys := xs))
        have h26 := h2.keep (kD (G' := G4) (ys := xs))
        have al6 := (al4.keep (Same.keep (N := And1 N D) s4)).keep (kD (G' := G4) (ys := xs))
        have sG6 := sD (o := .lst xs) (sG.trans s34)
        have hD6 := upd_same (H := G4) (a := D) (o := .lst xs)
        generalize upd G4 D (.lst xs) = G6 at *
        obtain ⟨tp, rfl⟩ := At.tupV hy6
        obtain ⟨ws, htp, lw, ew⟩ := At.tupE hy6
        obtain ⟨w0, w1, rfl⟩ : ∃ w0 w1, ws = [w0, w1] := match ws, lw with
          | [a, b], _ => ⟨a, b, rfl⟩
        refine ⟨tp, _, rfl, SqT.of htp, rfl, _, _, rfl, _, _, rfl, rfl, ?_⟩
        exact ⟨⟨o, d', r', some (whole dn rw' z)⟩, w0, w1, v2, some (.str (SX.S [41])), xs, rfl, hD6, hI6, ew 0 w0 _ rfl rfl, ew 1 w1 _ rfl rfl, h26, run, by show o.length ≤ i + 1; have lo : (o ++ [(d', r')]).length ≤ i := lo; rw [List.length_append] at lo; omega, sG6, al6⟩
      | str =>
        rename_i o dn rw' z
        refine ⟨_, rfl, rfl, _, rfl, iteF' (seqF (S_ne e40 (by decide))) ?_⟩
        refine ⟨_, rfl, rfl, _, rfl, iteF' (seqF (S_ne e41 (by decide))) ?_⟩
        refine ⟨_, rfl, rfl, _, rfl, iteT' (seqT e42.symm) ?_⟩
        refine ⟨_, rfl, (by show 2 ≤ sizeLine; decide), fun l nl => ?_⟩
        have s3 := Same.upd (o := .tup [.str "star", vp]) nl
        exact ⟨⟨o, dn, rw', some (.star z)⟩, vd, vr, .ref l, some (.str (SX.S [42])), xs, rfl, s3 _ _ hD, hI.keep (Same.keep s3), hd.same s3, hr'.same s3, mk_one al3 nl hp', run, Nat.le_succ_of_le lo, sG.trans s3, al3.keep (Same.keep (N := And1 N D) s3)⟩
      | dot =>
        rename_i o dn rw' z
        refine ⟨_, rfl, rfl, _, rfl, iteF' (seqF (S_ne e40 (by decide))) ?_⟩
        refine ⟨_, rfl, rfl, _, rfl, iteF' (seqF (S_ne e41 (by decide))) ?_⟩
        refine ⟨_, rfl, rfl, _, rfl, iteF' (seqF (S_ne e42 (by decide))) ?_⟩
        refine ⟨_, rfl, rfl, _, rfl, iteT' (seqT e46.symm) ?_⟩
        refine ⟨_, rfl, _, rfl, And1 N D, vr, vp, rw', z, .row, _, rfl, .inr ⟨rfl, rfl⟩, hr', hp', al3, fun v1 G3 s3 h1 => ?_⟩
        exact ⟨⟨o, dn, some (two .row rw' z), some z⟩, vd, v1, vp, some (.str (SX.S [46])), xs, rfl, s3 _ _ hD, hI.keep (Same.keep s3), hd.same s3, h1, hp'.same s3, run, Nat.le_succ_of_le lo, sG.trans s3, al3.keep (Same.keep (N := And1 N D) s3)⟩
      | pls =>
        rename_i o dn rw' z
        refine ⟨_, rfl, rfl, _, rfl, iteF' (seqF (S_ne e40 (by decide))) ?_⟩
        refine ⟨_, rfl, rfl, _, rfl, iteF' (seqF (S_ne e41 (by decide))) ?_⟩
        refine ⟨_, rfl, rfl, _, rfl, iteF' (seqF (S_ne e42 (by decide))) ?_⟩
        refine ⟨_, rfl, rfl, _, rfl, iteF' (seqF (S_ne e46 (by decide))) ?_⟩
        refine ⟨_, rfl, rfl, _, rfl, iteT' (seqT e43.symm) ?_⟩
        refine ⟨_, rfl, _, rfl, _, rfl, And1 N D, vr, vp, rw', z, .row, _, rfl, .inr ⟨rfl, rfl⟩, hr', hp', al3, fun v1 G3 s3 h1 => ?_⟩
        have al4 := al3.keep (Same.keep (N := And1 N D) s3)
        refine ⟨And1 N D, vd, v1, dn, _, .plus, _, rfl, .inl ⟨rfl, rfl⟩, hd.same s3, h1, al4, fun v2 G4 s4 h2 => ?_⟩
        have s34 := s3.trans s4
        exact ⟨_, _, rfl, ⟨o, some (whole dn rw' z), none, some z⟩, v2, .non, vp, some (.str (SX.S [43])), xs, rfl, s34 _ _ hD, hI.keep (Same.keep s34), h2, .non, hp'.same s34, run, Nat.le_succ_of_le lo, sG.trans s34, al3.keep (Same.keep (N := And1 N D) s34)⟩
      | leaf hl =>
        rename_i o dn rw' pt t
        obtain ⟨c, l, rfl, hc⟩ := leaf_head hl
        have ne : ∀ n, n ≠ 45 → n < 48 → (c :: l) ≠ [n] := fun n n1 n2 z => by injection z with z _; omega
        refine ⟨_, rfl, rfl, _, rfl, iteF' (seqF (S_ne e40 (ne 40 (by decide) (by decide)))) ?_⟩
        refine ⟨_, rfl, rfl, _, rfl, iteF' (seqF (S_ne e41 (ne 41 (by decide) (by decide)))) ?_⟩
        refine ⟨_, rfl, rfl, _, rfl, iteF' (seqF (S_ne e42 (ne 42 (by decide) (by decide)))) ?_⟩
        refine ⟨_, rfl, rfl, _, rfl, iteF' (seqF (S_ne e46 (ne 46 (by decide) (by decide)))) ?_⟩
        refine ⟨_, rfl, rfl, _, rfl, iteF' (seqF (S_ne e43 (ne 43 (by decide) (by decide)))) ?_⟩
        refine ⟨_, rfl, And1 N D, c :: l, t, rfl, hl, ltok, al3, fun v1 G3 s3 h1 => ?_⟩
        exact ⟨⟨o, dn, rw', some t⟩, vd, vr, v1, some (.str (SX.S (c :: l))), xs, rfl, s3 _ _ hD, hI.keep (Same.keep s3), hd.same s3, hr'.same s3, h1, run, Nat.le_succ_of_le lo, sG.trans s3, al3.keep (Same.keep (N := And1 N D) s3)⟩
    · rintro σ G ⟨b, vd, vr, vp, o5, xs, rfl, hD, hI, hd, hr', hp', run, lo, sG, al3⟩
      rw [lt, List.drop_of_length_le (Nat.le_refl _)] at run
      have run : b = ⟨[], d, r, some x⟩ := run
      subst run
      refine ⟨_, rfl, _, rfl, _, rfl, And1 N D, vr, vp, r, x, .row, _, rfl, .inr ⟨rfl, rfl⟩, hr', hp', al3, fun v1 G3 s3 h1 => ?_⟩
      have al4 := al3.keep (Same.keep (N := And1 N D) s3)
      exact ⟨And1 N D, vd, v1, d, _, .plus, _, rfl, .inl ⟨rfl, rfl⟩, hd.same s3, h1, al4, fun v2 G4 s4 h2 => k v2 G4 (sG.trans (s3.trans s4)) (h2.less fun b z => .inl z)⟩
end
end RX

set_option Elab.async false
set_option linter.all false
set_option maxRecDepth 100000
set_option maxHeartbeats 2000000
/-! Errors of the program: classes that take their __init__ from another one, objects and methods that may let one out.
What may be let out is told at the place of the call (PassesAt), since what the except suite wants depends on the slots. -/
namespace XR
open PySem PySem.Spec PyProof.Rows L2
section
variable {P : Program} {w : World} {K : PySem.W.Frag} {mg : Str → Option Value} {base : Heap}
/-- a def that lets nothing out keeps its promise whatever is wished of exceptions -/
theorem quiet {CX : CXT} {k : Nat} {f : Addr} {fd : FuncData} {ps : List Str} {sp : Sp} (F : FnOk P w K mg base CX0 k f fd ps sp) : FnOk P w K mg base CX k f fd ps sp := by
  refine ⟨F.len, fun A outer s H args us vs Q E room env bind rel told => codeAny_mono (F.run A outer s H args us vs Q E room env bind rel told) ?_⟩
  rintro (bad | flow) s' fin
  · exact (show False from fin).elim
  · exact match flow, fin with
    | .ret _, fin => fin
    | .next, fin => fin
    | .brk, fin => fin
    | .cont, fin => fin
/-- a def of the text that may let out exceptions without a context -/
theorem ok_out {x qual : Str} {st : Stmt} {f : Addr} {fd : FuncData} {N ps : List Str} {k : Nat} {sp : Sp} (F : Fun K x qual st f fd) (S : FnScope N ps (defScope st)) (len : ∀ vs H Q E, sp vs H Q E → vs.length = ps.length)
    (body : ∀ (cdv : Value) (A : Around) (outer : List Env) (s : Shared) (H : Hp) (vs : List V) (Q : VK) (E : XK), Room k (A.deeper (envOfC qual (defScope st) s.heap.objs.size f cdv)) → sp vs H Q E →
      ∃ t, PSs (cxOf (L2N.CX P w) P w K mg base N qual (defScope st) f cdv A outer s H E) (defBody st) t ∧ t { nx := fun _ H' => Q .non H', rt := Q } (start N vs) H) :
    FnOk P w K mg base (L2N.CX P w) (k + 1) f fd ps sp := by
  obtain ⟨_, _, _, _, _, _, cdv, _, _, rfl, look, code⟩ := F.ex
  refine fn_of look code S len ?_
  intro A outer s H vs Q E room told
  exact body cdv A outer s H vs Q E room told
end
section
variable {X : Cx} {CX : CXT} {n : Nat} {ini C : Addr} {fd : FuncData} {names : List Str} {pr : Sp} {low : List V} {lowV : List Value}
/-- C(args): what its __init__ lets out is taken here -/
theorem makeAt {W : XK} {q : List (Addr × Obj)} {st : L2.St} {hp : Hp} {now : Shared} {Kv : VK} {argV : List Value} {args : List V} (cls : Mk X.K C ini) (F : FnOk X.prog X.w X.K X.mg X.base CX n ini fd names pr) (room : Room (n + 1) X.A) (bind : Binds X.K fd names lowV)
    (lows : Vals low lowV) (out : PassesAt CX X st W) (I : Inv X q st hp now) (rel : Vals args argV)
    (told : ∀ o d, hp o = none → hp d = none → d ≠ o → pr (.ref o :: (args ++ low)) (upd (upd hp d (.own o)) o (.ins C d [])) (fun v h' => v = .non ∧ Kv (.ref o) h') W) :
    wpAny (model X.prog X.w) X.A (call (.ref C) argV) (EP X q st Kv) X.xe now := by
  have want := told (now.heap.objs.size + 1) now.heap.objs.size (I.hok.fresh (Nat.le_succ _)) (I.hok.fresh (Nat.le_refl _)) (Nat.ne_of_lt (Nat.lt_succ_self _))
  have J := Inv.made (C := C) I
  have rels : Vals (V.ref (now.heap.objs.size + 1) :: (args ++ low)) (Value.ref (now.heap.objs.size + 1) :: (argV ++ lowV)) := .cons rfl (rel.append lows)
  have size : ((Value.ref (now.heap.objs.size + 1) :: argV) ++ lowV).length = names.length := rels.length.symm.trans (F.len _ _ _ _ want)
  have bound := bind _ (Value.ref (now.heap.objs.size + 1) :: argV) J.kIn size
  have run := F.run _ X.stack _ _ ⟨Value.ref (now.heap.objs.size + 1) :: argV, []⟩ _ _ _ W (room.make C argV []) (J.env0.make C argV []) bound rels want
  refine wpAny_call (make_map (f := ini) I.kIn cls.makes cls.init (beq_iff_eq.mp cls.fn) (codeAny_mono run ?_))
  rintro (bad | flow) s' fin
  · exact out q _ _ bad s' J fin
  · exact match flow, fin with
    | .ret u, fin => by
      obtain ⟨v, h', J', rv, rfl, good⟩ := J.after fin
      exact ⟨rv, V.ref (now.heap.objs.size + 1), h', J', rfl, good⟩
    | .next, fin => False.elim fin
    | .brk, fin => False.elim fin
    | .cont, fin => False.elim fin
def tMakeS (C : Addr) (pr : Sp) (low : List V) (E : L2.St → XK) (t : TA) : TE := fun σ H Q => t σ H fun vs H1 => ∀ o d, H1 o = none → H1 d = none → d ≠ o → pr (.ref o :: (vs ++ low)) (upd (upd H1 d (.own o)) o (.ins C d [])) (fun v h' => v = .non ∧ Q (.ref o) h') (E σ)
variable {E : L2.St → XK} {x m : Str} {p pos apos : Pos} {e o : Expr} {es : List Expr} {t : TA} {ta : TE}
theorem pe_makeS (cls : Mk X.K C ini) (F : FnOk X.prog X.w X.K X.mg X.base CX n ini fd names pr) (room : Room (n + 1) X.A) (hg : Gl X x) (hm : X.mg x = some (.ref C)) (bind : Binds X.K fd names lowV) (lows : Vals low lowV) (out : ∀ σ, PassesAt CX X σ (E σ)) (ha : PA X (e :: es) t)
    (dbg : (x == ("__debug__" : Str)) = false := by decide) (st1 : starEach (e :: es) X.env = (false, eval e X.env) :: starEach es X.env := by rfl) (st2 : (backTo pos (starEach es X.env)).any (·.1) = false := by rfl) : PE X (.Call (.Name x p) (e :: es) [] pos) (tMakeS C pr low E t) :=
  ⟨fun pins s σ H Q I told => wpAny_Call_Name_kw (ld_glob I hg hm (PySem.W.callWith_K (h₀ := X.base) I.ok.mod.kin cls.kp (thn (ha.run pos pins s σ H _ I told) fun _ _ ⟨_, _, J, rel, want⟩ => ⟨J.kIn, makeAt cls F room bind lows (out σ) J rel want⟩) st1 st2) dbg)⟩
def tMethS (C : Addr) (m : Str) (pr : Sp) (low : List V) (E : L2.St → XK) (ta : TE) (t : TA) : TE := fun σ H Q => ta σ H fun v H1 => ∃ a d fs, v = .ref a ∧ H1 a = some (.ins C d fs) ∧ fs.lookup m = none ∧ t σ H1 fun vs H2 => pr (v :: (vs ++ low)) H2 Q (E σ)
/-- o.m(e, ..) where m may let something out -/
theorem pe_methS {pl : Sem Bool} (ho : PE X o ta) (c : Cls X.K C) (hm : Meth X.K C m ini) (F : FnOk X.prog X.w X.K X.mg X.base CX n ini fd names pr) (room : Room n X.A) (bind : Binds X.K fd names lowV) (lows : Vals low lowV) (out : ∀ σ, PassesAt CX X σ (E σ)) (ha : PA X (e :: es) t)
    (st1 : starEach (e :: es) X.env = (false, eval e X.env) :: starEach es X.env := by rfl) (st2 : (backTo pos (starEach es X.env)).any (·.1) = false := by rfl)
    (how : eval (.Call (.Attribute o m apos) (e :: es) [] pos) X.env = (do let ov ← eval o X.env; standAt apos.atName; let (f, first) ← holding [ov] (getMethod ov m pl); callWith pos f first (backTo pos (starEach (e :: es) X.env)) (backToKw pos (keywordEach [] X.env))) := by rfl) :
    PE X (.Call (.Attribute o m apos) (e :: es) [] pos) (tMethS C m pr low E ta t) := by
  constructor
  intro pins s σ H Q I told
  refine PySem.W.methodCall_KW (pl := pl) (thn (ho.run pins s σ H _ I told) ?_) how
  rintro u s1 ⟨v, H1, J, rv, a, d, fs, rfl, at_a, none_m, told⟩
  cases (show u = Value.ref a from rv)
  refine getmeth_ok J at_a c hm none_m (PySem.W.callWith_K (first := [.ref a]) (h₀ := X.base) I.ok.mod.kin hm.kp (thn (ha.run pos pins s1 σ H1 _ J told) ?_) st1 st2)
  rintro us s2 ⟨vs, H2, J2, rel, want⟩
  exact ⟨J2.kIn, run_fnSD (us := .ref a :: us) (vs := .ref a :: vs) F room bind lows (out σ) J2 (.cons rfl rel) want⟩
end
/-! ### C(..) of an own class of error over ValueError -/
section
variable {X : Cx} {CX : CXT} {n : Nat} {C ini : Addr} {fd : FuncData} {names : List Str} {pr : Sp} {low : List V} {lowV : List Value}
theorem errAt {q : List (Addr × Obj)} {st : L2.St} {hp : Hp} {now : Shared} {Kx : XK} {argV : List Value} {args : List V} (T : OexC X.K C) (find : PySem.W.findIn X.K (.ref C) "__init__" = some (some (.ref ini))) (isf : PySem.W.typeIn X.K (.ref ini) = some (.type "function"))
    (F : FnOk X.prog X.w X.K X.mg X.base CX n ini fd names pr) (room : Room (n + 1) X.A) (bind : Binds X.K fd names lowV) (lows : Vals low lowV) (none_out : Passes CX X (fun _ _ _ => False)) (I : Inv X q st hp now) (rel : Vals args argV) (few : args.length ≤ 1000)
    (told : ∀ a, hp a = none → pr (.ref a :: (args ++ low)) (upd hp a (exo a C none)) (fun v h' => v = .non ∧ ∃ (d : Addr) (fs : List (Str × V)), h' a = some (exo a C (some d)) ∧ h' d = some (exd d fs) ∧ hp d = none ∧ Kx (.ref C) (some d) (upd (del h' a) d (.xd fs))) (fun _ _ _ => False)) :
    wpAny (model X.prog X.w) X.A (call (.ref C) argV) (L2N.MkP X q st Kx) X.xe now := by
  obtain ⟨_, _, _, _, mro, _, _, _, _, _, _, _, _, _, _, cobj, mroOk⟩ := T.cls
  obtain ⟨hh, gs, dr, tk, os⟩ := now
  -- the argument tuple, then the error itself
  have above : hh.objs.size ≤ hh.objs.size + 1 := Nat.le_succ _
  have want := told (hh.objs.size + 1) (I.hok.fresh above)
  have grown : ∀ b u, hh.get? b = some u → ((hh.push (PySem.W.kdv_tup argV)).push (PySem.HandSPX.excO C hh.objs.size)).get? b = some u := fun b u z => Heap.get?_push_of_some _ (Heap.get?_push_of_some _ z)
  have there : ((hh.push (PySem.W.kdv_tup argV)).push (PySem.HandSPX.excO C hh.objs.size)).get? (hh.objs.size + 1) = some (PySem.HandSPX.excO C hh.objs.size) := by heap_get
  have J : Inv X q st (upd hp (hh.objs.size + 1) (exo (hh.objs.size + 1) C none)) ⟨(hh.push (PySem.W.kdv_tup argV)).push (PySem.HandSPX.excO C hh.objs.size), gs, dr, tk, os⟩ := I.laid grown above (exo_ok there)
  have rels : Vals (V.ref (hh.objs.size + 1) :: (args ++ low)) (Value.ref (hh.objs.size + 1) :: (argV ++ lowV)) := .cons rfl (rel.append lows)
  have size : ((Value.ref (hh.objs.size + 1) :: argV) ++ lowV).length = names.length := rels.length.symm.trans (F.len _ _ _ _ want)
  have short : argV.length ≤ sizeLine := by
    have := Paired.length rel
    have := sizeLine_eq
    omega
  have bound := bind _ (Value.ref (hh.objs.size + 1) :: argV) J.kIn size
  have run := F.run _ X.stack _ _ ⟨Value.ref (hh.objs.size + 1) :: argV, []⟩ _ _ _ (fun _ _ _ => False) (room.make C argV []) (J.env0.make C argV []) bound rels want
  refine wpAny_call (PySem.HandSPX.call_own PySem.F.excBase_ValueError (fun Y => PySem.HandSPX.refsVE_contains Y mro mroOk) (I.kIn _ _ cobj) (PySem.W.looks_findIn I.kIn find) (fun self => PySem.W.bind_fn I.kIn self isf) short (codeAny_mono run ?_))
  rintro (bad | flow) s' fin
  · exact none_out q st _ _ bad s' J fin
  · exact match flow, fin with
    | .ret u, fin => by
      obtain ⟨v, h', sameOs, bare, un, good, rv, rfl, d, fs, at_a, at_d, newd, out⟩ := fin
      obtain ⟨h2, g2, d2, t2, os2⟩ := s'
      obtain ⟨t0, G, JG, keepG, goneA, objA, noneA⟩ := mk_end0 (d2 := d2) (t2 := t2) I above grown un good sameOs bare at_a at_d newd
      refine ⟨rv, hh.objs.size + 1, _, _, ⟨G, g2, d2, t2, os2⟩, _, .ref C, some d, rfl, JG, keepG, goneA, objA, ⟨rfl, rfl, ?_⟩, rfl, rfl, noneA, rfl, bare, raises_own T.exC T.tyC, out⟩
      rintro _ ⟨⟩
      rfl
    | .next, fin => False.elim fin
    | .brk, fin => False.elim fin
    | .cont, fin => False.elim fin
variable {x : Str} {p pos : Pos} {e : Expr} {es : List Expr} {ta : TA}
/-- raise C(e, ..) -/
theorem pmk_err (T : OexC X.K C) (find : PySem.W.findIn X.K (.ref C) "__init__" = some (some (.ref ini))) (isf : PySem.W.typeIn X.K (.ref ini) = some (.type "function")) (F : FnOk X.prog X.w X.K X.mg X.base CX n ini fd names pr) (room : Room (n + 1) X.A) (bind : Binds X.K fd names lowV) (lows : Vals low lowV)
    (none_out : Passes CX X (fun _ _ _ => False)) (hg : Gl X x) (hm : X.mg x = some (.ref C)) (ha : PA X (e :: es) ta) (dbg : (x == ("__debug__" : Str)) = false := by decide) (st1 : starEach (e :: es) X.env = (false, eval e X.env) :: starEach es X.env := by rfl) (st2 : (backTo pos (starEach es X.env)).any (·.1) = false := by rfl) :
    L2N.PMk X (.Call (.Name x p) (e :: es) [] pos) (tMkO C pr low ta) := fun pins s σ H Q I told =>
  wpAny_Call_Name_kw (ld_glob I hg hm (PySem.W.callWith_K (h₀ := X.base) I.ok.mod.kin T.kC (thn (ha.run pos pins s σ H _ I told) fun _ _ ⟨_, _, J, rel, few, want⟩ => ⟨J.kIn, errAt T find isf F room bind lows none_out J rel few want⟩) st1 st2) dbg)
/-- raise C() -/
theorem pmk_err0 (T : OexC X.K C) (find : PySem.W.findIn X.K (.ref C) "__init__" = some (some (.ref ini))) (isf : PySem.W.typeIn X.K (.ref ini) = some (.type "function")) (F : FnOk X.prog X.w X.K X.mg X.base CX n ini fd names pr) (room : Room (n + 1) X.A) (bind : Binds X.K fd names lowV) (lows : Vals low lowV)
    (none_out : Passes CX X (fun _ _ _ => False)) (hg : Gl X x) (hm : X.mg x = some (.ref C)) (dbg : (x == ("__debug__" : Str)) = false := by decide) : L2N.PMk X (.Call (.Name x p) [] [] pos) (tMkO C pr low tNil) := fun pins s σ H Q I told =>
  wpAny_Call_Name_kw (ld_glob I hg hm (PySem.W.callWith_K0 I.kIn T.kC (errAt (argV := []) T find isf F room bind lows none_out I .nil told.1 told.2)) dbg)
end
end XR

set_option Elab.async false
set_option linter.all false
set_option maxRecDepth 100000
set_option maxHeartbeats 2000000
/-! Within an except suite: defs that are handed the caught error itself, isinstance of it. -/
namespace XH
open PySem PySem.Spec PyProof.Rows L2 L2H
/-- a promise that may speak of the error at hand (its place and its object) -/
abbrev SpP := Addr × Obj → Sp
structure FnP (P : Program) (w : World) (K : PySem.W.Frag) (mg : Str → Option Value) (base : Heap) (CX : CXT) (k : Nat) (f : Addr) (fd : FuncData) (ps : List Str) (sp : SpP) : Prop where
  fits : ∀ z vs H Q E, sp z vs H Q E → vs.length = ps.length
  goes : ∀ (z : Addr × Obj) (A : Around) (outer : List Env) (s : Shared) (H : Hp) (args : Args) (us : List Value) (vs : List V) (Q : VK) (E : XK), Hot1 A z → RoomH k A → PinOk outer H s z → Env0 P w K mg base A outer s H → BindsTo s fd args (ps.zip us) → Vals vs us →
    sp z vs H Q E → codeAny (model P w) A (.call (.ref f) args) (CR CX outer P w H s Q E) s
section
variable {P : Program} {w : World} {K : PySem.W.Frag} {mg : Str → Option Value} {base : Heap} {CX : CXT}
theorem ok_hot {x qual : Str} {st : Stmt} {f : Addr} {fd : FuncData} {N ps : List Str} {k : Nat} {sp : SpP} (F : Fun K x qual st f fd) (S : FnScope N ps (defScope st)) (fits : ∀ z vs H Q E, sp z vs H Q E → vs.length = ps.length)
    (body : ∀ (cdv : Value) (z : Addr × Obj) (A : Around) (outer : List Env) (s : Shared) (H : Hp) (vs : List V) (Q : VK) (E : XK), Hot1 A z → RoomH k (A.deeper (envOfC qual (defScope st) s.heap.objs.size f cdv)) → sp z vs H Q E →
      ∃ t, PSs (cxH CX P w K mg base N qual (defScope st) f cdv A outer s H E z) (defBody st) t ∧ t { nx := fun _ H' => Q .non H', rt := Q } (L2.start N vs) H) : FnP P w K mg base CX (k + 1) f fd ps sp := by
  obtain ⟨_, _, _, _, _, _, cdv, _, _, rfl, look, code⟩ := F.ex
  refine ⟨fits, ?_⟩
  intro z A outer s H args us vs Q E hot room pin env bind rel told
  have stays := fun b u (q : base.get? b = some u) => (env.bs b u q).1
  have kin : K.In s.heap := env.mod.kin.keeps stays
  refine codeAny_call_function room.depth (kin _ _ look) rfl S.co S.gen rfl (PySem.W.codeRec_of kin code) (bind _ _ _ _ (wpAny_newFunctionEnv_cells S.kind ?_ ?_))
  · rintro ⟨n, v⟩ mem
    rcases S.par n (List.of_mem_zip mem).1 with q | q
    · exact Or.inl q
    · exact Or.inr ⟨q, PySem.W.cellsFrom_some _ _ _ (Or.inl q)⟩
  · rintro _ rfl s1 laid
    refine ⟨(env.mod.nolimit.keeps stays).keeps laid.toInCall.keep, codeAny_func ?_⟩
    obtain ⟨t, reads, told'⟩ := body cdv z A outer s H vs Q E hot (room.deeper _) told
    have I := inv_startH (CX := CX) (P := P) (w := w) (mg := mg) (base := base) (E := E) S pin env (fits _ _ _ _ _ told) rel laid
    refine wpAny_mono (reads.run [] s1 (L2.start N vs) H _ I told') ?_ fun _ _ z => z
    intro flow s' fin
    exact match flow, fin with
      | .ret _, ⟨v, _, H', J, rv, q⟩ => ⟨v, H', J.os, J.bare, J.base, J.hok, rv, q⟩
      | .next, ⟨_, H', J, q⟩ => ⟨V.non, H', J.os, J.bare, J.base, J.hok, rfl, q⟩
      | .brk, ⟨_, _, _, q⟩ => False.elim q
      | .cont, ⟨_, _, _, q⟩ => False.elim q
end
section
variable {X : Cx} {CX : CXT} {k : Nat} {f : Addr} {fd : FuncData} {ps : List Str} {sp : SpP} {E : L2.St → XK} {x : Str} {q pos : Pos} {e : Expr} {es : List Expr} {t : TA} {z : Addr × Obj}
theorem pe_callP (F : FnP X.prog X.w X.K X.mg X.base CX k f fd ps sp) (room : RoomH k X.A) (hot : Hot1 X.A z) (mem : z ∈ X.pn) (hg : Gl X x) (hm : X.mg x = some (.ref f)) (hk : PySem.W.keepIn X.K (.ref f) = true) (bind : Binds X.K fd ps []) (out : ∀ σ, PassesAt CX X σ (E σ)) (ha : PA X (e :: es) t)
    (dbg : (x == ("__debug__" : Str)) = false := by decide) (st1 : starEach (e :: es) X.env = (false, eval e X.env) :: starEach es X.env := by rfl) (st2 : (backTo pos (starEach es X.env)).any (·.1) = false := by rfl) : PE X (.Call (.Name x q) (e :: es) [] pos) (tCallS (sp z) E t) := by
  constructor
  intro pins s σ H Q I told
  refine wpAny_Call_Name_kw (ld_glob I hg hm (PySem.W.callWith_K (h₀ := X.base) I.ok.mod.kin hk (thn (ha.run pos pins s σ H _ I told) ?_) st1 st2) dbg)
  rintro us s1 ⟨vs, H1, J, rel, want⟩
  refine ⟨J.kIn, ?_⟩
  have size : us.length = ps.length := rel.length.symm.trans (F.fits _ _ _ _ _ want)
  have bound : BindsTo s1 fd ⟨us, []⟩ (ps.zip us) := by
    have b := bind s1 us J.kIn (by rw [List.append_nil]; exact size)
    rw [List.append_nil] at b
    exact b
  obtain ⟨g1, g2, g3, g4, g5⟩ := J.pin z (List.mem_append_left _ mem)
  have pin : PinOk X.stack H1 s1 z := ⟨g1, g2, fun hm => (List.mem_cons.mp (J.stkSub z.1 hm)).elim g3 g4, g5⟩
  refine wpAny_call (codeAny_mono (F.goes z X.A X.stack s1 H1 ⟨us, []⟩ us vs Q (E σ) hot room pin J.env0 bound rel want) ?_)
  rintro (bad | flow) s' fin
  · exact out σ pins H1 s1 bad s' J fin
  · exact match flow, fin with
    | .ret _, fin => J.after fin
    | .next, fin => False.elim fin
    | .brk, fin => False.elim fin
    | .cont, fin => False.elim fin
end
/-! ### isinstance of the error at hand -/
structure ErrC (K : PySem.W.Frag) (D : Addr) : Prop where
  known : (PySem.W.clsIn K D).isSome = true
  ga : PySem.W.findIn K (.ref D) "__getattribute__" = some (some (.builtin "BaseException.__getattribute__"))
  gt : PySem.W.findIn K (.ref D) "__getattr__" = some none
  sub : PySem.W.subIn K (.ref D) (.type "BaseException") = some true
  cl : PySem.W.findIn K (.ref D) "__class__" = some (some (.builtin "object.__class__"))
  get : PySem.W.specialIn K (.builtin "object.__class__") "__get__" = some (some (.builtin "getset_descriptor.__get__"))
  tak : PySem.W.takesIn K (.builtin "object.__class__") = some true
  mro : PySem.W.mroIn K D (.type "object") = some true
/-- isinstance(e, c): the error stands at z, its fields at dd -/
def rIsP (K : PySem.W.Frag) (D : Addr) (z : Addr × Obj) : List V → Hp → VK → Prop := fun xs H Q => ∃ (c : V) (cv : Value) (b : Bool) (dd : Addr) (fs : List (Str × V)), xs = [.ref z.1, c] ∧ (∀ u, RelV c u → u = cv) ∧ PySem.W.kitOne K (.ref D) cv = some b ∧ z.2.dict = some dd ∧ H dd = some (.xd fs) ∧ Q (.bl b) H
theorem call_isP {X : Cx} {z : Addr × Obj} {D : Addr} (mem : z ∈ X.pn) (C : ErrC X.K D) (cls : z.2.cls = .ref D) (flds : ∃ vs, z.2.data = .fields vs) : CallR X (.builtin "isinstance") (rIsP X.K D z) := by
  rintro pins s σ H xs us Q I rel ⟨c, cv, b, dd, fs, rfl, only, kit, hd, at_d, q⟩
  obtain ⟨vs, data⟩ := flds
  obtain ⟨u1, eus, rc⟩ : ∃ r1, us = [Value.ref z.1, r1] ∧ RelV c r1 := by
    cases rel with
    | cons a as =>
      cases as with
      | cons b bs =>
        cases bs
        cases (show _ = Value.ref z.1 from a)
        exact ⟨_, rfl, b⟩
  subst eus
  cases only _ rc
  have held : s.heap.get? z.1 = some z.2 := (I.pin z (List.mem_append_left _ mem)).1
  obtain ⟨mA, names, _⟩ : ObjOk X.prog X.w H s.heap dd (.xd fs) := I.hok dd _ at_d
  obtain ⟨od, obj, _⟩ := lookIn_ns names
  have inst : PySem.W.InstAt s.heap z.1 z.2 D (some od) := by
    refine ⟨held, cls, ?_, ?_⟩
    · unfold PySem.W.notCls
      rw [data] <;> rfl
    · rw [hd]
      exact obj
  refine PySem.W.kia_one (PySem.W.kitx_exc C.known C.ga C.gt C.sub C.cl C.get C.tak C.mro) I.kIn inst kit (fun y => nomatch y) ?_
  intro tk
  exact ⟨.bl b, H, I.kept (t' := tk) fun _ _ y => y, rfl, q⟩
end XH

set_option Elab.async false
set_option linter.all false
set_option maxRecDepth 100000
set_option maxHeartbeats 2000000
/-! A comprehension (without a test) while an error is handled: its block keeps the error pinned. -/
namespace XH
open PySem PySem.Spec PyProof.Rows L2 L2H
/-- in the block of a comprehension the error at hand stands as it stood -/
theorem pin_block {X : Cx} {z : Addr × Obj} {s3 s' : Shared} {H3 H' : Hp} {scope : Scope} {ce : Env} {fp : List Addr} {σ σ' : L2.St} {pins : List (Addr × Obj)} (mem : z ∈ X.pn) (I3 : Inv X pins σ H3 s3) (loc : ce.locals = s3.heap.objs.size) (apart : ∀ b ∈ fp, z.1 ≠ b)
    (I : Inv (X.blk s3 H3 scope ce fp) [] σ' H' s') : Inv ((X.blk s3 H3 scope ce fp).tr [z] fun _ _ => False) [] σ' H' s' := by
  obtain ⟨g1, g2, g3, g4, g5⟩ := I3.pin z (List.mem_append_left _ mem)
  have outside : z.1 ∉ frs X.stack := fun hm => (List.mem_cons.mp (I3.stkSub z.1 hm)).elim g3 g4
  have inside : z.1 ∉ fp := fun hm => apart _ hm rfl
  have J : Inv (X.blk s3 H3 scope ce fp) [z] σ' H' s' := I.pins_of (by
    intro y hy
    cases List.mem_singleton.mp hy
    refine ⟨I.base.keep _ _ g1 g2 outside inside, I.base.free _ _ g1 g2 inside, fun e => ?_, outside, g5⟩
    have lt := Heap.lt_size g1
    rw [show z.1 = s3.heap.objs.size from e.trans loc] at lt
    exact Nat.lt_irrefl _ lt)
  exact J.toTry _
theorem unpin_block {X : Cx} {z : Addr × Obj} {s3 s' : Shared} {H3 H' : Hp} {scope : Scope} {ce : Env} {fp : List Addr} {σ' : L2.St} (ok : (X.blk s3 H3 scope ce fp).Ok) (J : Inv ((X.blk s3 H3 scope ce fp).tr [z] fun _ _ => False) [] σ' H' s') : Inv (X.blk s3 H3 scope ce fp) [] σ' H' s' :=
  (Inv.ofTry (pins := [z]) J ok).pins_of fun y hy => nomatch hy
theorem pe_lcHot {X : Cx} {z : Addr × Obj} {elt tg iter : Expr} {scope : Scope} {own : List (Str × Nat)} {pos : Pos} {wi : TI} {g : TG} {te : TE} (hot : Hot1 X.A z) (mem : z ∈ X.pn) (nd : X.N.Nodup) (hi : PIH X tg iter wi) (ok : BlkOk X.N X.env.scope scope own)
    (hg : ∀ (s : Shared) (H : Hp) (C : Addr) (cl : List (Str × Addr)) (fp : List Addr), PG (X.blk s H scope (compEnvC scope cl C X.env) fp) tg g) (he : ∀ (s : Shared) (H : Hp) (C : Addr) (cl : List (Str × Addr)) (fp : List Addr), PE (X.blk s H scope (compEnvC scope cl C X.env) fp) elt te)
    (fold : ∀ x, foldedSetIterable iter X.env x = pure x := by intro _; rfl) : PE X (.ListComp elt [⟨tg, iter, [], 0⟩] scope pos) (tLc wi g tYes te (own.map (·.2))) := by
  constructor
  intro pins s σ H Q I told
  rw [eval_ListComp]
  refine wpAny_comprehension_free (use := none) rfl fold (closure_ok ?_) ok.kind (fun y hy e => (ok.uniq y hy).trans (congrArg some e)) (thn (hi.run pins s σ H _ I told) fun _ _ h1 => thn h1 ?_)
  · intro y hy e
    exact (ok.free y hy e).elim (fun k => I.ok.has _ (Or.inl k)) fun k => I.ok.has _ (Or.inr k)
  rintro itv s2 ⟨it, fp, tn, J, H2, rfl, I2, T, start, apart, want⟩
  refine wpAny_newObj_type (newEnv_comp ?_) (show 0 ≤ sizeLine by decide)
  obtain ⟨W, ⟨m0, w0⟩, turn⟩ := want s2.heap.objs.size (I2.hok.fresh (Nat.le_refl _))
  -- the new list
  obtain ⟨s3, es3⟩ : ∃ s3 : Shared, s3 = { s2 with heap := s2.heap.push { cls := .type "list", data := .seq ([] : List Value).toArray } } := ⟨_, rfl⟩
  obtain ⟨H3, eH3⟩ : ∃ H3 : Hp, H3 = upd H2 s2.heap.objs.size (.lst []) := ⟨_, rfl⟩
  have keeps3 : ∀ b o, s2.heap.get? b = some o → s3.heap.get? b = some o := fun b o e => by
    rw [es3]
    exact Heap.get?_push_of_some _ e
  have I3 : Inv X pins σ H3 s3 := by
    rw [es3, eH3]
    exact I2.laid (t' := s2.toks) (fun b o e => Heap.get?_push_of_some _ e) (Nat.le_refl _) ⟨Nat.zero_le _, [], 0, .nil, Heap.get?_push_size _ rfl⟩
  rw [← eH3] at w0
  have size3 : s3.heap.objs.size = s2.heap.objs.size + 1 := by rw [es3]; exact Heap.size_push ..
  have small : ∀ b ∈ fp, b < s2.heap.objs.size := fun b hb => by
    obtain ⟨o, e, _⟩ := T.obj _ _ start b hb
    exact Heap.lt_size e
  have apart3 : ∀ b ∈ fp, FpOk X pins H3 b ∧ b < s3.heap.objs.size := fun b hb => by
    have lt := small b hb
    refine ⟨⟨?_, (apart b hb).2⟩, by rw [size3]; exact Nat.lt_succ_of_lt lt⟩
    rw [eH3, upd_ne (Nat.ne_of_lt lt)]
    exact (apart b hb).1
  have zap : ∀ b ∈ fp, z.1 ≠ b := fun b hb => (apart3 b hb).1.2.2.2.2.2 z (List.mem_append_left _ mem)
  have start3 : tn 0 s3.heap := T.keep _ _ _ start fun b _ o e => keeps3 b o e
  have I4 := block_start I3 ok nd apart3
  rw [← es3]
  have pg := hg s3 H3 s3.heap.objs.size (cellsFrom (s3.heap.objs.size + 1) scope.names (cloFrom X.env.cells scope.names [])) fp
  have pe := he s3 H3 s3.heap.objs.size (cellsFrom (s3.heap.objs.size + 1) scope.names (cloFrom X.env.cells scope.names [])) fp
  show codeAny _ _ (.compStart (.ListComp elt [⟨tg, iter, [], 0⟩] scope pos) 0 (.ref it) (.ref s2.heap.objs.size) (compEnvC scope (cellsFrom (s3.heap.objs.size + 1) scope.names (cloFrom X.env.cells scope.names [])) s3.heap.objs.size X.env))
    (compPost (model X.prog X.w) X.A X.xe none (EP X pins σ Q) (.ref s2.heap.objs.size) s3.heap.objs.size) { s3 with heap := pushCells (s3.heap.push { cls := .type "dict", data := .dict #[] }) scope.names }
  have cL : (compEnvC scope (cellsFrom (s3.heap.objs.size + 1) scope.names (cloFrom X.env.cells scope.names [])) s3.heap.objs.size X.env).locals = s3.heap.objs.size := rfl
  generalize compEnvC scope (cellsFrom (s3.heap.objs.size + 1) scope.names (cloFrom X.env.cells scope.names [])) s3.heap.objs.size X.env = ce at I4 pg pe cL ⊢
  obtain ⟨s4, es4⟩ : ∃ s4 : Shared, s4 = { s3 with heap := pushCells (s3.heap.push { cls := .type "dict", data := .dict #[] }) scope.names } := ⟨_, rfl⟩
  have start4 : tn 0 s4.heap := T.keep _ _ _ start3 fun b _ o e => by
    rw [es4]
    exact pushCells_keeps _ _ _ _ (Heap.get?_push_of_some _ e)
  rw [← es4] at I4 ⊢
  have unseen : ∀ b ∈ fp, H3 b = none := fun b hb => (apart3 b hb).1.1
  have far : ∀ {σ' : L2.St} {H' : Hp} {s' : Shared}, Inv (X.blk s3 H3 scope ce fp) [] σ' H' s' → (∀ b ∈ fp, H' b = none) → ∀ b ∈ fp, FpOk (X.blk s3 H3 scope ce fp) [] H' b := fun {σ' H' s'} J none_ b hb =>
    ⟨none_ b hb, (J.ok.exf b hb).1, J.ok.exfs b hb, Or.inl hb, fun y c e => (J.ok.exf b hb).2 y c e, fun y hy => nomatch hy⟩
  have farZ : ∀ {σ' : L2.St} {H' : Hp} {s' : Shared}, Inv (X.blk s3 H3 scope ce fp) [] σ' H' s' → (∀ b ∈ fp, H' b = none) → ∀ b ∈ fp, FpOk ((X.blk s3 H3 scope ce fp).tr [z] fun _ _ => False) [] H' b := fun {σ' H' s'} J none_ b hb => by
    obtain ⟨c1, c2, c3, c4, c5, _⟩ := far J none_ b hb
    refine ⟨c1, c2, c3, c4, c5, ?_⟩
    intro y hy
    cases List.mem_singleton.mp (show y ∈ [z] from hy)
    exact zap b hb
  have hotZ : HotC ((X.blk s3 H3 scope ce fp).tr [z] fun _ _ => False) := ⟨z, hot, List.mem_singleton.mpr rfl⟩
  have loop : codeAny (model X.prog X.w) X.A (.compLoop (.ListComp elt [⟨tg, iter, [], 0⟩] scope pos) 0 (.ref it) (.ref s2.heap.objs.size) ce) (compPost (model X.prog X.w) X.A X.xe none (EP X pins σ Q) (.ref s2.heap.objs.size) s3.heap.objs.size) s4 := by
    refine compLoop_any (fun n s' => ∃ i H', Inv (X.blk s3 H3 scope ce fp) [] (wipe σ (own.map (·.2))) H' s' ∧ tn i s'.heap ∧ (∀ b ∈ fp, H' b = none) ∧ W i n H') ?_ m0 ⟨0, H3, I4, start4, unseen, w0⟩
    rintro n s5 ⟨i, H5, I5, t5, n5, w5⟩
    rcases turn i n H5 w5 with ⟨stop, fin⟩ | ⟨go, Nx, reach, step⟩
    · refine thnF (T.done ((X.blk s3 H3 scope ce fp).tr [z] fun _ _ => False) rfl rfl rfl hotZ i [] s5 _ H5 (fun _ _ => False) (pin_block mem I3 cL zap I5) (farZ I5 n5) t5 stop) ?_
      rintro _ s6 ⟨rfl, J6⟩
      have I6 := unpin_block I5.ok J6
      have back : Inv X pins σ H5 s6 := I3.call' (ch := fp) I6.os I6.base I6.hok I6.bare fun b hb =>
        let c := (apart3 b hb).1.2
        ⟨c.2.2.1, c.1, c.2.2.2.1, c.2.2.2.2⟩
      have gone : H5 s3.heap.objs.size = none := by
        have e : H5 ce.locals = none := I6.free
        rw [cL] at e
        exact e
      obtain ⟨m, names, _⟩ := I6.loc
      obtain ⟨c0, c1, _, c3, c4, c5⟩ := I3.fpOk (H' := H5) (Nat.le_refl _) gone
      refine ⟨m, ?_, fun h' same => ⟨.ref s2.heap.objs.size, H5, back.turned (t' := s6.toks) (fun b o nb e => (same.2 b nb).trans e) c0 c1 c3 c4 c5, rfl, fin⟩⟩
      rw [← cL]
      exact names
    · refine thnF (T.item ((X.blk s3 H3 scope ce fp).tr [z] fun _ _ => False) rfl rfl rfl hotZ i [] s5 _ H5 (fun _ _ => False) (pin_block mem I3 cL zap I5) (farZ I5 n5) t5 go) ?_
      rintro _ s6 ⟨u, rfl, more⟩
      refine thnF more ?_
      rintro _ s7 ⟨x, H7, J7, r7, y7, t7, n7⟩
      have I7 := unpin_block I5.ok J7
      refine thnF (pg.run _ s7 _ H7 x u _ (I7.pinned (far I7 n7) (T.obj _ _ t7)) r7 (step x H7 y7)) ?_
      rintro _ s8 ⟨σ8, H8, I8, slots, q8⟩
      refine thnF ((show PTs (X.blk s3 H3 scope ce fp) [] tYes from pts_nil).run _ s8 σ8 H8 _ I8 q8) ?_
      rintro b s9 ⟨H9, I9, q9⟩
      have close : ∀ {s' : Shared} {H' : Hp}, Inv (X.blk s3 H3 scope ce fp) ([] ++ pinsAt fp s7.heap) σ8 H' s' → Nx H' → ∃ m, m < n ∧ ∃ i H', Inv (X.blk s3 H3 scope ce fp) [] (wipe σ (own.map (·.2))) H' s' ∧ tn i s'.heap ∧ (∀ b ∈ fp, H' b = none) ∧ W i m H' := fun {s' H'} J nx => by
        obtain ⟨m', lt, w'⟩ := reach H' nx
        have held : ∀ b ∈ fp, ∀ o, s7.heap.get? b = some o → s'.heap.get? b = some o ∧ H' b = none := fun b hb o e => by
          have y := J.pin (b, o) (List.mem_append_right _ (List.mem_append_right _ (mem_pinsAt hb e)))
          exact ⟨y.1, y.2.1⟩
        refine ⟨m', lt, i + 1, H', (J.unpinned (pins := [])).weak ?_ ?_, T.keep _ _ _ t7 fun b hb o e => (held b hb o e).1, fun b hb => ?_, w'⟩
        · rw [← slots, wipe_length]
        · intro j v e
          rw [← slots] at e
          exact (wipe_some e).1
        · obtain ⟨o, e, _⟩ := T.obj _ _ t7 b hb
          exact (held b hb o e).2
      cases b with
      | false => exact close I9 q9
      | true =>
        refine thnF (pe.run _ s9 σ8 H9 _ I9 q9) ?_
        rintro y s10 ⟨yv, H10, I10, r10, acc, hD, room, nx⟩
        exact app_ok (X := X.blk s3 H3 scope ce fp) I10 hD room r10 fun s11 I11 => close I11 nx
  exact codeAny_compStart_list loop (T.self X.A 0 _ _ _ start4 loop)
end XH

set_option Elab.async false
set_option linter.all false
set_option maxRecDepth 100000
set_option maxHeartbeats 4000000
/-! An own class of error called by a keyword; a field of an error that was made as a value. -/
namespace PySem
namespace XKw
open PySem.HandSPX Builtin Builtin.ObjectAttr
section
variable {M : Model} {prog : Program} {w : World} {A : Around} {E : Value → Shared → Prop} {R : Result → Shared → Prop} {h : Heap} {g : Array GenState} {d : Drawn} {t : Nat} {os : OsState} {kw : List (Str × Value)}
variable {nm q : Str} {C N : Addr} {bs bm bmB : List Value} {hdct : Bool} {sn : List Str} {sub : List Value} {ab : Bool} {col : Option Bool} {dd : Option Addr} {k0 k1 k2 k3 k5 : Option Value} {B newId initId : String}
theorem check_kw (FB : ExcBaseFacts B newId initId bmB) (same : ∀ Y : String, bm.contains (.type Y) = bmB.contains (.type Y)) {rest : List Value} {Q : Unit → Shared → Prop} (obj : h.get? C = some (excClassObj nm q C N bs bm hdct sn sub ab col dd k0 k1 k2 k3 k5 newId))
    (then_ : Q () ⟨h, g, d, t, os⟩) : wpAny M A (checkBuiltinCall newId ⟨.ref C :: rest, kw⟩) Q E ⟨h, g, d, t, os⟩ := by
  have hasB : (Value.ref C :: bm).contains (.type B) = true := by rw [List.contains_cons, same, FB.hasB, Bool.or_true]
  have star := FB.noStar
  simp only [checkBuiltinCall, FB.newKind, FB.newSplit, FB.newRow]
  repeat (first
    | refine wpAny_loadPart_at obj ?_
    | (refine wpAny_isSubtype_exc obj ?_; rw [hasB])
    | refine wpAny_staticBase_exc obj ?_
    | refine wpAny_madeBy_exc obj ?_
    | simp only [bne_self_eq_false, Bool.false_eq_true, if_false]
    | wp_step)
  exact then_
theorem new_kw (FB : ExcBaseFacts B newId initId bmB) (same : ∀ Y : String, bm.contains (.type Y) = bmB.contains (.type Y)) {rest : List Value} (obj : h.get? C = some (excClassObj nm q C N bs bm hdct sn sub ab col dd k0 k1 k2 k3 k5 newId)) (few : rest.length ≤ sizeLine)
    (then_ : R (.ok (.ret (.ref (h.objs.size + 1)))) ⟨(h.push (W.kdv_tup rest)).push (excO C h.objs.size), g, d, t, os⟩) : codeAny (model prog w) A (.builtin newId ⟨.ref C :: rest, kw⟩) R ⟨h, g, d, t, os⟩ := by
  have ends := FB.ends
  have inB : (Value.ref C :: bm).contains (.type B) = true := by rw [List.contains_cons, same, FB.hasB, Bool.or_true]
  have notA : (Value.ref C :: bm).contains (.type "AttributeError") = false := by rw [List.contains_cons, same, FB.noAttr]; rfl
  have notN : (Value.ref C :: bm).contains (.type "NameError") = false := by rw [List.contains_cons, same, FB.noName]; rfl
  refine codeAny_builtinAt FB.entry ?_
  unfold Builtin.«BaseException.__new__»
  refine wpAt_bind (show wpAt _ _ _ (stack >>= _) _ _ _ from wpAt_bind (wpAt_stack fun _ _ => wpAt_of_wpAny ?_))
  wp_walk
  refine wpAt_of_wpAny ?_
  rw [FB.owner]
  repeat (first
    | with_reducible refine wpAny_madeHere_exc FB.canon obj ?_
    | with_reducible refine wpAny_loadPart_at obj ?_
    | (with_reducible refine wpAny_isSubtype_exc obj ?_; first | rw [inB] | rw [notA] | rw [notN])
    | wp_step)
  have e : (h.push (W.kdv_tup rest)).objs.size = h.objs.size + 1 := Heap.size_push ..
  show R _ _
  rw [Heap.size_push]
  exact then_
/-- C(.., name=value): the error is laid, then its __init__ runs with the same arguments -/
theorem made_kw (FB : ExcBaseFacts B newId initId bmB) (same : ∀ Y : String, bm.contains (.type Y) = bmB.contains (.type Y)) {rest : List Value} {ini : Addr} {Q : Fin → Shared → Prop} (obj : h.get? C = some (excClassObj nm q C N bs bm hdct sn sub ab col dd k0 k1 k2 k3 k5 newId))
    (finds : W.Looks (model prog w) h (typeLookup (.ref C) "__init__") (some (.ref ini))) (binds : ∀ self, W.Looks (model prog w) h (bindSpecial (.ref ini) self) (.ref ini, [self])) (few : rest.length ≤ sizeLine)
    (then_ : codeAny (model prog w) A (.call (.ref ini) ⟨.ref (h.objs.size + 1) :: rest, kw⟩) (fun r s' => match r with | .ok (.ret v) => v = .none ∧ Q (.done (.ret (.ref (h.objs.size + 1)))) s' | .ok _ => False | .error e => E e s') ⟨(h.push (W.kdv_tup rest)).push (excO C h.objs.size), g, d, t, os⟩) :
    wpAny (model prog w) A (Builtin.«type.__call__» ⟨.ref C :: rest, kw⟩) Q E ⟨h, g, d, t, os⟩ := by
  repeat (first
    | with_reducible refine wpAny_loadPart_at obj ?_
    | with_reducible refine wpAny_madeBy_exc obj ?_
    | wp_step)
  refine codeAny_call_builtin_code (Code.quiet_builtin _ FB.quiet) (check_kw FB same obj (new_kw FB same obj few ?_))
  show wpAny _ _ _ _ _ _
  have on : ∀ b o, h.get? b = some o → ((h.push (W.kdv_tup rest)).push (excO C h.objs.size)).get? b = some o := fun b o e => Heap.get?_push_of_some _ (Heap.get?_push_of_some _ e)
  have obj2 := on _ _ obj
  have laid : ((h.push (W.kdv_tup rest)).push (excO C h.objs.size)).get? (h.objs.size + 1) = some (excO C h.objs.size) := by heap_get
  have own : (Value.ref C :: bm).contains (.ref C) = true := by simp
  have finds2 := finds.keeps on
  have binds2 := (binds (.ref (h.objs.size + 1))).keeps on
  unfold isInstance
  repeat (first
    | with_reducible refine wpAny_loadPart_at laid ?_
    | (with_reducible refine wpAny_isSubtype_exc obj2 ?_; rw [own])
    | wp_step)
  show wpAny _ _ (typeLookup (.ref C) _) _ _ _
  refine finds2.at (wpAny_holding (wpAny_bind (binds2.at (wpAny_bind (wpAny_call (codeAny_mono then_ ?_))))))
  rintro (bad | (v | _ | _ | _)) s' fin
  · exact fin
  · exact fin.elim
  · exact fin.elim
  · exact fin.elim
  · obtain ⟨rfl, fin⟩ := fin
    first
      | exact wpAny_pure (wpAny_pure fin)
      | (wp_walk; exact fin)
theorem check_call (obj : h.get? C = some (excClassObj nm q C N bs bm hdct sn sub ab col dd k0 k1 k2 k3 k5 newId)) {rest : List Value} {Q : Unit → Shared → Prop} (then_ : Q () ⟨h, g, d, t, os⟩) : wpAny M A (checkBuiltinCall "type.__call__" ⟨.ref C :: rest, kw⟩) Q E ⟨h, g, d, t, os⟩ := by
  have sub := tc_sub
  have isType : (⟨h, g, d, t, os⟩ : Shared).TypeIs (.ref C) "type" := ⟨_, obj, rfl⟩
  simp only [checkBuiltinCall, tc_kind, tc_split]
  repeat (any_goals (first
    | assumption
    | with_reducible refine wpAny_loadPart_at obj ?_
    | with_reducible refine wpAny_onRaise ?_
    | with_reducible refine wpAny_map ?_
    | wp_step))
theorem call_kw (FB : ExcBaseFacts B newId initId bmB) (same : ∀ Y : String, bm.contains (.type Y) = bmB.contains (.type Y)) {rest : List Value} {ini : Addr} (obj : h.get? C = some (excClassObj nm q C N bs bm hdct sn sub ab col dd k0 k1 k2 k3 k5 newId))
    (finds : W.Looks (model prog w) h (typeLookup (.ref C) "__init__") (some (.ref ini))) (binds : ∀ self, W.Looks (model prog w) h (bindSpecial (.ref ini) self) (.ref ini, [self])) (few : rest.length ≤ sizeLine)
    (then_ : codeAny (model prog w) (A.under (.builtin "type.__call__" ⟨.ref C :: rest, kw⟩)) (.call (.ref ini) ⟨.ref (h.objs.size + 1) :: rest, kw⟩) (W.InitBack (h.objs.size + 1) R) ⟨(h.push (W.kdv_tup rest)).push (excO C h.objs.size), g, d, t, os⟩) :
    codeAny (model prog w) A (.call (.ref C) ⟨rest, kw⟩) R ⟨h, g, d, t, os⟩ := by
  have tl := tc_lookup
  have tb := tc_bind (.ref C)
  have isType : (⟨h, g, d, t, os⟩ : Shared).TypeIs (.ref C) "type" := ⟨_, obj, rfl⟩
  refine codeAny_of_tree (show wpAny _ _ (callAny (.ref C) _) _ _ _ from ?_)
  repeat (any_goals (first
    | assumption
    | with_reducible refine wpAny_loadPart_at obj ?_
    | wp_step))
  refine ⟨rfl, codeAny_call_builtin_at (Code.quiet_builtin _ (by decide +kernel)) entry_typeCall (check_call obj (made_kw FB same obj finds binds few (codeAny_mono then_ ?_)))⟩
  rintro (bad | (v | _ | _ | _)) s' fin <;> exact fin
end
end XKw
end PySem
namespace XR
open PySem PySem.Spec PyProof.Rows L2
section
variable {X : Cx} {CX : CXT} {n : Nat} {C ini : Addr} {fd : FuncData} {names ks : List Str} {pr : Sp} {gf : List Value → List Value → List Value} {gV : List V → List V → List V}
def tErrK (C : Addr) (pr : Sp) (gV : List V → List V → List V) (m : Nat) (tk : TA) : L2.St → Hp → XK → Prop := fun σ H Kx => tk σ H fun zs H1 => zs.length = m ∧ ∀ a, H1 a = none → pr (gV [.ref a] zs) (upd H1 a (exo a C none))
  (fun v h' => v = .non ∧ ∃ (d : Addr) (fs : List (Str × V)), h' a = some (exo a C (some d)) ∧ h' d = some (exd d fs) ∧ H1 d = none ∧ Kx (.ref C) (some d) (upd (del h' a) d (.xd fs))) (fun _ _ _ => False)
/-- raise C(name=e, ..) -/
theorem pmk_errK {x : Str} {p pos : Pos} {kws : List Keyword} {tk : TA} (T : OexC X.K C) (find : PySem.W.findIn X.K (.ref C) "__init__" = some (some (.ref ini))) (isf : PySem.W.typeIn X.K (.ref ini) = some (.type "function")) (F : FnOk X.prog X.w X.K X.mg X.base CX n ini fd names pr) (room : Room (n + 1) X.A)
    (bind : KBn X.K fd names 1 ks gf gV) (none_out : Passes CX X (fun _ _ _ => False)) (hg : Gl X x) (hm : X.mg x = some (.ref C)) (hkw : PK X kws tk) (all : (backToKw pos (keywordEach kws X.env)).all (·.1.isSome) = true := by rfl) (eks : (backToKw pos (keywordEach kws X.env)).filterMap (·.1) = ks := by rfl)
    (dbg : (x == ("__debug__" : Str)) = false := by decide) (st2 : ((backTo pos (starEach [] X.env)).any (·.1) || (backToKw pos (keywordEach kws X.env)).any (·.1.isNone)) = false := by rfl) :
    L2N.PMk X (.Call (.Name x p) [] kws pos) (tErrK C pr gV ks.length tk) := by
  intro pins s σ H Kx I told
  refine wpAny_Call_Name_kw (ld_glob I hg hm (PySem.W.callWith_KW0 (h₀ := X.base) I.ok.mod.kin T.kC all (thn (hkw.run pos pins s σ H _ I told) ?_) st2) dbg)
  rintro ws s1 ⟨zs, H1, J1, rel, len, told⟩
  refine ⟨J1.kIn, ?_⟩
  rw [eks]
  obtain ⟨_, _, _, _, mro, _, _, _, _, _, _, _, _, _, _, cobj, mroOk⟩ := T.cls
  obtain ⟨hh, gs, dr, tk, os⟩ := s1
  have above : hh.objs.size ≤ hh.objs.size + 1 := Nat.le_succ _
  have want := told (hh.objs.size + 1) (J1.hok.fresh above)
  have grown : ∀ b u, hh.get? b = some u → ((hh.push (PySem.W.kdv_tup [])).push (PySem.HandSPX.excO C hh.objs.size)).get? b = some u := fun b u z => Heap.get?_push_of_some _ (Heap.get?_push_of_some _ z)
  have there : ((hh.push (PySem.W.kdv_tup [])).push (PySem.HandSPX.excO C hh.objs.size)).get? (hh.objs.size + 1) = some (PySem.HandSPX.excO C hh.objs.size) := by heap_get
  have J : Inv X pins σ (upd H1 (hh.objs.size + 1) (exo (hh.objs.size + 1) C none)) ⟨(hh.push (PySem.W.kdv_tup [])).push (PySem.HandSPX.excO C hh.objs.size), gs, dr, tk, os⟩ := J1.laid grown above (exo_ok there)
  have self : Vals [V.ref (hh.objs.size + 1)] [Value.ref (hh.objs.size + 1)] := .cons rfl .nil
  have bound := bind.to ⟨(hh.push (PySem.W.kdv_tup [])).push (PySem.HandSPX.excO C hh.objs.size), gs, dr, tk, os⟩ [Value.ref (hh.objs.size + 1)] ws J.kIn rfl (rel.length.symm.trans len)
  have run := F.run _ X.stack _ _ ⟨[Value.ref (hh.objs.size + 1)], ks.zip ws⟩ _ _ _ (fun _ _ _ => False) (room.make C [] (ks.zip ws)) (J.env0.make C [] (ks.zip ws)) bound (bind.rel self rel) want
  refine wpAny_call (PySem.XKw.call_kw PySem.F.excBase_ValueError (fun Y => PySem.HandSPX.refsVE_contains Y mro mroOk) (J1.kIn _ _ cobj) (PySem.W.looks_findIn J1.kIn find) (fun self => PySem.W.bind_fn J1.kIn self isf) (Nat.zero_le _) (codeAny_mono run ?_))
  rintro (bad | flow) s' fin
  · exact none_out pins σ _ _ bad s' J fin
  · exact match flow, fin with
    | .ret u, fin => by
      obtain ⟨v, h', sameOs, bare, un, good, rv, rfl, d, fs, at_a, at_d, newd, out⟩ := fin
      obtain ⟨h2, g2, d2, t2, os2⟩ := s'
      obtain ⟨t0, G, JG, keepG, goneA, objA, noneA⟩ := mk_end0 (d2 := d2) (t2 := t2) J1 above grown un good sameOs bare at_a at_d newd
      refine ⟨rv, hh.objs.size + 1, _, _, ⟨G, g2, d2, t2, os2⟩, _, .ref C, some d, rfl, JG, keepG, goneA, objA, ⟨rfl, rfl, ?_⟩, rfl, rfl, noneA, rfl, bare, raises_own T.exC T.tyC, out⟩
      rintro _ ⟨⟩
      rfl
    | .next, fin => False.elim fin
    | .brk, fin => False.elim fin
    | .cont, fin => False.elim fin
end
/-- a field of an error that was made here and is not kept -/
def tErrF (C : Addr) (fld : Str) (t : L2.St → Hp → XK → Prop) : TE := fun σ H Q => t σ H fun cls d H' => cls = .ref C ∧ ∃ (dd : Addr) (fs : List (Str × V)) (v : V), d = some dd ∧ H' dd = some (.xd fs) ∧ fs.lookup fld = some v ∧ Q v H'
theorem pe_errF {X : Cx} {C : Addr} {e : Expr} {t : L2.St → Hp → XK → Prop} {pos : Pos} {fld : Str} (mk : L2N.PMk X e t) (T : XfC X.K C) (free : PySem.W.findIn X.K (.ref C) fld = some none) (hb : attributeBase e fld X.env (eval e X.env) = eval e X.env := by rfl) :
    PE X (.Attribute e fld pos) (tErrF C fld t) := by
  constructor
  intro pins s σ H Q I told
  refine attr_of hb (thn (mk pins s σ H _ I told) ?_)
  rintro u s1 ⟨a, oe, vs, sI, H', cls, d, rfl, J, keeps, newA, obj, hz, data, h1, noneA, sameOs, bare, raises, rfl, dd, fs, v, rfl, at_d, look, q⟩
  have J1 : Inv X pins σ H' s1 := by
    have K1 := J.call' (ch := []) (s' := s1) (H' := H') sameOs (Un.kept keeps) (J.hok.kept keeps) bare (fun _ y => nomatch y)
    exact K1
  obtain ⟨mA, names, rels⟩ : ObjOk X.prog X.w H' s1.heap dd (.xd fs) := J1.hok dd _ at_d
  obtain ⟨od, dobj, find⟩ := lookIn_ns names
  obtain ⟨w, hw, rw⟩ := RelO.some_of (v := v) (o := mA fld) (by rw [← look]; exact rels fld)
  have inst : PySem.W.InstAt s1.heap a oe C (some od) := ⟨obj, hz.1, by unfold PySem.W.notCls; rw [data] <;> rfl, by rw [hz.2.1]; exact dobj⟩
  exact PySem.HandSPX.exc_get J1.kIn inst T.ga T.gg T.exC (PySem.W.findObj_own T.hdC free rfl (by rw [find, hw])) (handed_of rw) ⟨v, H', J1.tok _, rw, q⟩
end XR

set_option Elab.async false
set_option linter.all false
set_option maxRecDepth 100000
/-! Own classes of errors: one base over ValueError, the others right above the base. -/
namespace XE
open PySem PySem.Spec PyProof.Rows L2
def four : List Value := [.type "ValueError", .type "Exception", .type "BaseException", .type "object"]
/-- the class C stands written, its chain is C :: bm -/
def Line (K : PySem.W.Frag) (C : Addr) (bm : List Value) : Prop := ∃ nm q N bs sn sub ab col dd k0 k1 k2 k3 k5, K.lookup C = some (excClassObj nm q C N bs bm true sn sub ab col dd k0 k1 k2 k3 k5 "ValueError.__new__")
section
variable {K : PySem.W.Frag} {C B : Addr} {bm : List Value}
theorem Line.cls (l : Line K C bm) : (PySem.W.clsIn K C).isSome = true := by
  obtain ⟨_, _, _, _, _, _, _, _, _, _, _, _, _, _, e⟩ := l
  unfold PySem.W.clsIn
  rw [e]
  rfl
theorem Line.sub (l : Line K C bm) (x : Value) : PySem.W.subIn K (.ref C) x = some ((Value.ref C :: bm).contains x) := by
  obtain ⟨_, _, _, _, _, _, _, _, _, _, _, _, _, _, e⟩ := l
  show PySem.W.mroIn K C x = _
  unfold PySem.W.mroIn PySem.W.clsIn
  rw [e]
  rfl
theorem Line.ty (l : Line K C bm) : PySem.W.typeIn K (.ref C) = some (.type "type") := by
  obtain ⟨_, _, _, _, _, _, _, _, _, _, _, _, _, _, e⟩ := l
  show Option.map (fun x => x.cls) (List.lookup C K) = _
  rw [e]
  rfl
theorem Line.kit (l : Line K B bm) {t : Value} {b : Bool} (s : PySem.W.subIn K t (.ref B) = some b) : PySem.W.kitCls K t (.ref B) = some b := by
  unfold PySem.W.kitCls
  have h : ((PySem.W.clsIn K B).isSome && PySem.W.typeIn K (.ref B) == some (.type "type")) = true := by
    rw [l.cls, l.ty]
    simp
  simp only [h, if_true, s]
theorem Line.one (l : Line K B bm) {t : Value} {b : Bool} (s : PySem.W.subIn K t (.ref B) = some b) (ne : b = false → t ≠ .ref B) : PySem.W.kitOne K t (.ref B) = some b := by
  unfold PySem.W.kitOne
  by_cases e : (t == .ref B) = true
  · rw [if_pos e]
    cases b with
    | true => rfl
    | false => exact absurd (beq_iff_eq.mp e) (ne rfl)
  · rw [if_neg e]
    exact l.kit s
theorem Line.exm (l : Line K B bm) {t : Value} {b : Bool} (s : PySem.W.subIn K t (.ref B) = some b) (ex : PySem.W.subIn K (.ref B) (.type "BaseException") = some true) : PySem.W.exmOne K t (.ref B) = some b := by
  unfold PySem.W.exmOne
  rw [if_pos (by rw [ex]; simp)]
  exact l.kit s
end
/-- the chains of the errors D 0 .. D 9 and of their base D 10 -/
def chain (D : Nat → Addr) (i : Nat) : List Value := if i = 10 then four else .ref (D 10) :: four
section
variable {D : Nat → Addr} {i j : Nat}
theorem chain_ty {T : String} (h : Value.type T ∈ four) : (Value.ref (D i) :: chain D i).contains (.type T) = true := by
  rw [List.contains_iff_mem]
  refine List.mem_cons_of_mem _ ?_
  unfold chain
  split
  · exact h
  · exact List.mem_cons_of_mem _ h
theorem no_ref {a : Addr} : ¬ Value.ref a ∈ four := by
  intro h
  unfold four at h
  simp at h
theorem chain_base (hi : i ≤ 10) : (Value.ref (D i) :: chain D i).contains (.ref (D 10)) = true := by
  rw [List.contains_iff_mem]
  by_cases e : i = 10
  · subst e
    exact List.mem_cons_self
  · unfold chain
    rw [if_neg e]
    exact List.mem_cons_of_mem _ List.mem_cons_self
theorem chain_ref (inj : ∀ i j, i ≤ 10 → j ≤ 10 → D i = D j → i = j) (hi : i ≤ 10) (hj : j ≤ 9) : (Value.ref (D i) :: chain D i).contains (.ref (D j)) = decide (i = j) := by
  by_cases e : i = j
  · subst e
    rw [decide_eq_true rfl, List.contains_iff_mem]
    exact List.mem_cons_self
  · rw [decide_eq_false e, Bool.eq_false_iff]
    intro h
    rw [List.contains_iff_mem] at h
    rcases List.mem_cons.mp h with h | h
    · injection h with h
      exact e (inj j i (by omega) hi h).symm
    · unfold chain at h
      split at h
      · exact no_ref h
      · rcases List.mem_cons.mp h with h | h
        · injection h with h
          have := inj j 10 (by omega) (Nat.le_refl _) h
          omega
        · exact no_ref h
theorem chain_ve : PySem.HandSPX.refsVE (chain D i) = true := by
  unfold chain
  split
  · show PySem.HandSPX.refsVE four = true
    decide +kernel
  · show PySem.HandSPX.refsVE four = true
    decide +kernel
end
theorem upto10 {p : Nat → Prop} (h0 : p 0) (h1 : p 1) (h2 : p 2) (h3 : p 3) (h4 : p 4) (h5 : p 5) (h6 : p 6) (h7 : p 7) (h8 : p 8) (h9 : p 9) (h10 : p 10) : ∀ i, i ≤ 10 → p i
  | 0, _ => h0 | 1, _ => h1 | 2, _ => h2 | 3, _ => h3 | 4, _ => h4 | 5, _ => h5 | 6, _ => h6 | 7, _ => h7 | 8, _ => h8 | 9, _ => h9 | 10, _ => h10
  | n + 11, h => absurd h (by omega)
end XE

set_option Elab.async false
set_option maxRecDepth 100000
namespace RX
open PySem L2
/-! ### errors -/
abbrev sWi : Stmt := inClass (topS 3) 0
def spW (K : PySem.W.Frag) : Sp := fun vs H Q _ => ∃ (a C : Addr) (v : V), vs = [.ref a, v] ∧ OexC K C ∧ PySem.W.findIn K (.ref C) "what" = some none ∧ H a = some (exo a C none) ∧ ∀ dx, H dx = none → dx ≠ a → Q .non (upd (upd H dx (exd dx [("what", v)])) a (exo a C (some dx)))
/-- the names of the law's errors: D 0 to D 9, and their base D 10 -/
structure Errs (K : PySem.W.Frag) (mg : Str → Option Value) (fW : Addr) (D : Nat → Addr) : Prop where
  oex : ∀ i, i ≤ 10 → OexC K (D i)
  ini : ∀ i, i ≤ 10 → PySem.W.findIn K (.ref (D i)) "__init__" = some (some (.ref fW))
  no : ∀ i, i ≤ 10 → PySem.W.findIn K (.ref (D i)) "what" = some none
  fn : PySem.W.typeIn K (.ref fW) = some (.type "function")
  xf : ∀ i, i ≤ 10 → XfC K (D i)
  cl : ∀ i, i ≤ 10 → XH.ErrC K (D i)
  kit : ∀ i j, i ≤ 10 → j ≤ 9 → PySem.W.kitOne K (.ref (D i)) (.ref (D j)) = some (decide (i = j))
  kitV : ∀ i, i ≤ 10 → PySem.W.kitOne K (.ref (D i)) (.type "ValueError") = some true
  kitW : ∀ i, i ≤ 10 → PySem.W.kitOne K (.ref (D i)) (.ref (D 10)) = some true
  exm : ∀ i, i ≤ 10 → PySem.W.exmOne K (.ref (D i)) (.ref (D 10)) = some true
  exm6 : PySem.W.exmOne K (.ref (D 6)) (.ref (D 6)) = some true
  m0 : mg "BadNumber" = some (.ref (D 0))
  m1 : mg "BadMachine" = some (.ref (D 1))
  m2 : mg "BadWord" = some (.ref (D 2))
  m3 : mg "BadStar" = some (.ref (D 3))
  m4 : mg "BadText" = some (.ref (D 4))
  m5 : mg "BadPaper" = some (.ref (D 5))
  m6 : mg "BadDeed" = some (.ref (D 6))
  m7 : mg "TooMany" = some (.ref (D 7))
  m8 : mg "Unknown" = some (.ref (D 8))
  m9 : mg "Taken" = some (.ref (D 9))
  m10 : mg "WordError" = some (.ref (D 10))
/-- what is left when an error with v in it flies -/
structure Flies (H : Hp) (v : V) (dd : Addr) (H' : Hp) : Prop where
  s : Same H H'
  n : H dd = none
  x : H' dd = some (.xd [("what", v)])
section
variable {P : Program} {w : World} {K : PySem.W.Frag} {mg : Str → Option Value} {base : Heap}
theorem scWErr : FnScope ["self", "what"] ["self", "what"] (defScope sWi) := ⟨rfl, rfl, rfl, by decide +kernel, rfl, by decide +kernel, by decide +kernel⟩
theorem ok_W {f : Addr} {fd : FuncData} (F : FunD K "__init__" "WordError.__init__" (defArgs sWi) (defBody sWi) (defScope sWi) [.non] [] f fd) : FnOk P w K mg base CX0 1 f fd ["self", "what"] (spW K) := by
  refine F.ok scWErr (fun vs H Q E h => ?_) (fun cdv A outer s H vs Q E hr h => ?_)
  · obtain ⟨a, C, v, rfl, _⟩ := h
    rfl
  · obtain ⟨a, C, v, rfl, T, no, ha, kk⟩ := h
    refine ⟨_, pss_one (ps_ost (pv 0) (pv 1)), ?_⟩
    exact ⟨_, rfl, _, rfl, a, C, rfl, T, no, .inl ⟨ha, kk⟩⟩
theorem raise_in {C : Addr} {H : Hp} {v : V} {W : XK} {E : XK} (T : OexC K C) (no : PySem.W.findIn K (.ref C) "what" = some none) (told : ∀ dd H', Flies H v dd H' → W (.ref C) (some dd) H') :
    ∀ a, H a = none → spW K [.ref a, v] (upd H a (exo a C none)) (fun u h' => u = .non ∧ ∃ (d : Addr) (fs : List (Str × V)), h' a = some (exo a C (some d)) ∧ h' d = some (exd d fs) ∧ H d = none ∧ W (.ref C) (some d) (upd (del h' a) d (.xd fs))) E := by
  intro a na
  refine ⟨a, C, v, rfl, T, no, upd_same, fun dx ndx ne => ⟨rfl, dx, [("what", v)], upd_same, by rw [upd_ne ne, upd_same], ?_, ?_⟩⟩
  · rw [upd_ne ne] at ndx
    exact ndx
  · rw [upd_ne ne] at ndx
    refine told dx _ ⟨fun b o e => ?_, ndx, upd_same⟩
    have b1 : b ≠ a := ne_of_none e na
    have b2 : b ≠ dx := ne_of_none e ndx
    rw [upd_ne b2, del_ne b1, upd_ne b1, upd_ne b2, upd_ne b1]
    exact e
end
section
open L2H XH XE
theorem inj_of {l : List Addr} (nd : l.Nodup) (hl : l.length = 11) : ∀ i j, i ≤ 10 → j ≤ 10 → l.getD i 0 = l.getD j 0 → i = j := by
  intro i j hi hj e
  have h1 : i < l.length := by omega
  have h2 : j < l.length := by omega
  rw [List.getD_eq_getElem?_getD, List.getD_eq_getElem?_getD, List.getElem?_eq_getElem h1, List.getElem?_eq_getElem h2] at e
  have e : l[i] = l[j] := e
  have pw := List.pairwise_iff_getElem.mp nd
  rcases Nat.lt_trichotomy i j with z | z | z
  · exact absurd e (pw i j h1 h2 z)
  · exact z
  · exact absurd e.symm (pw j i h2 h1 z)
theorem errs_of {K : PySem.W.Frag} {mg : Str → Option Value} {fW : Addr} {D : Nat → Addr} (inj : ∀ i j, i ≤ 10 → j ≤ 10 → D i = D j → i = j) (line : ∀ i, i ≤ 10 → Line K (D i) (chain D i)) (sa : ∀ i, i ≤ 10 → PySem.W.findIn K (.ref (D i)) "__setattr__" = some (some (.builtin "object.__setattr__")))
    (kC : ∀ i, i ≤ 10 → PySem.W.keepIn K (.ref (D i)) = true) (ini : ∀ i, i ≤ 10 → PySem.W.findIn K (.ref (D i)) "__init__" = some (some (.ref fW))) (no : ∀ i, i ≤ 10 → PySem.W.findIn K (.ref (D i)) "what" = some none) (fn : PySem.W.typeIn K (.ref fW) = some (.type "function"))
    (ga : ∀ i, i ≤ 10 → PySem.W.findIn K (.ref (D i)) "__getattribute__" = some (some (.builtin "BaseException.__getattribute__"))) (gg : ∀ i, i ≤ 10 → PySem.W.findIn K (.ref (D i)) "__getattr__" = some none) (hd : ∀ i, i ≤ 10 → PySem.W.hasDictIn K (D i) = true)
    (cl : ∀ i, i ≤ 10 → PySem.W.findIn K (.ref (D i)) "__class__" = some (some (.builtin "object.__class__"))) (xn : PySem.W.specialIn K (.builtin "object.__class__") "__get__" = some (some (.builtin "getset_descriptor.__get__"))) (xt : PySem.W.takesIn K (.builtin "object.__class__") = some true)
    (m0 : mg "BadNumber" = some (.ref (D 0))) (m1 : mg "BadMachine" = some (.ref (D 1))) (m2 : mg "BadWord" = some (.ref (D 2))) (m3 : mg "BadStar" = some (.ref (D 3))) (m4 : mg "BadText" = some (.ref (D 4))) (m5 : mg "BadPaper" = some (.ref (D 5))) (m6 : mg "BadDeed" = some (.ref (D 6))) (m7 : mg "TooMany" = some (.ref (D 7)))
    (m8 : mg "Unknown" = some (.ref (D 8))) (m9 : mg "Taken" = some (.ref (D 9))) (m10 : mg "WordError" = some (.ref (D 10))) : Errs K mg fW D := by
  have sT : ∀ i, i ≤ 10 → ∀ {T : String}, Value.type T ∈ four → PySem.W.subIn K (.ref (D i)) (.type T) = some true := fun i hi T h => by rw [(line i hi).sub, chain_ty h]
  have sB : ∀ i, i ≤ 10 → PySem.W.subIn K (.ref (D i)) (.type "BaseException") = some true := fun i hi => sT i hi (by decide)
  have sW : ∀ i, i ≤ 10 → PySem.W.subIn K (.ref (D i)) (.ref (D 10)) = some true := fun i hi => by rw [(line i hi).sub, chain_base hi]
  have sR : ∀ i j, i ≤ 10 → j ≤ 9 → PySem.W.subIn K (.ref (D i)) (.ref (D j)) = some (decide (i = j)) := fun i j hi hj => by rw [(line i hi).sub, chain_ref inj hi hj]
  exact {
    oex := fun i hi => by
      obtain ⟨nm, q, N, bs, sn, sub, ab, col, dd, k0, k1, k2, k3, k5, e⟩ := line i hi
      exact ⟨⟨nm, q, N, bs, _, sn, sub, ab, col, dd, k0, k1, k2, k3, k5, e, chain_ve⟩, sa i hi, sB i hi, (line i hi).ty, kC i hi⟩
    ini := ini, no := no, fn := fn
    xf := fun i hi => ⟨ga i hi, gg i hi, sB i hi, hd i hi⟩
    cl := fun i hi => ⟨(line i hi).cls, ga i hi, gg i hi, sB i hi, cl i hi, xn, xt, sT i hi (by decide)⟩
    kit := fun i j hi hj => (line j (by omega)).one (sR i j hi hj) fun z e => by
      injection e with e
      exact absurd (inj i j hi (by omega) e) (of_decide_eq_false z)
    kitV := fun i hi => by
      unfold PySem.W.kitOne
      rw [if_neg (by intro z; cases beq_iff_eq.mp z)]
      unfold PySem.W.kitCls
      have h : PySem.W.kitMeta "ValueError" = true := by decide +kernel
      show (if PySem.W.kitMeta "ValueError" = true then PySem.W.subIn K (.ref (D i)) (.type "ValueError") else none) = some true
      rw [if_pos h]
      exact sT i hi (by decide)
    kitW := fun i hi => (line 10 (Nat.le_refl _)).one (sW i hi) (fun z => nomatch z)
    exm := fun i hi => (line 10 (Nat.le_refl _)).exm (sW i hi) (sB 10 (Nat.le_refl _))
    exm6 := (line 6 (by decide)).exm (by rw [sR 6 6 (by decide) (by decide)]; rfl) (sB 6 (by decide))
    m0 := m0, m1 := m1, m2 := m2, m3 := m3, m4 := m4, m5 := m5, m6 := m6, m7 := m7, m8 := m8, m9 := m9, m10 := m10 }
end
end RX

set_option Elab.async false
set_option maxRecDepth 100000
namespace RX
open PySem L2 L2H XH
abbrev sMarks : Stmt := topS 35
abbrev sDue : Stmt := topS 36
def marksV (i : Nat) : List V := (List.range 10).map (fun j => V.bl (decide (i = j))) ++ [.bl true, .bl true]
def marksD (i : Nat) : List PyData := (List.range 10).map (fun j => PyData.bool (decide (i = j))) ++ [.bool true, .bool true]
/-- the error at hand is a D i, with these fields -/
structure HotIs (D : Nat → Addr) (z : Addr × Obj) (i : Nat) (dd : Addr) : Prop where
  le : i ≤ 10
  cls : z.2.cls = .ref (D i)
  dat : ∃ ws, z.2.data = .fields ws
  dic : z.2.dict = some dd
def spMarks (D : Nat → Addr) : SpP := fun z vs H Q _ => ∃ (i : Nat) (dd : Addr) (fs : List (Str × V)), vs = [.ref z.1] ∧ HotIs D z i dd ∧ H dd = some (.xd fs) ∧ ∀ (r : Addr) (H' : Hp), Same H H' → H r = none → H' r = some (.lst (marksV i)) → Q (.ref r) H'
def spDue : SpP := fun _ vs H Q _ => ∃ i : Nat, vs = [.int (i : Int)] ∧ ∀ (r : Addr) (H' : Hp), Same H H' → H r = none → H' r = some (.lst (marksV i)) → Q (.ref r) H'
section
variable {P : Program} {w : World} {K : PySem.W.Frag} {mg : Str → Option Value} {base : Heap}
theorem scMk : FnScope ["e", "one", "two", "more"] ["e"] (defScope sMarks) := ⟨rfl, rfl, rfl, by decide +kernel, rfl, by decide +kernel, by decide +kernel⟩
theorem scDu : FnScope ["k", "place"] ["k"] (defScope sDue) := ⟨rfl, rfl, rfl, by decide +kernel, rfl, by decide +kernel, by decide +kernel⟩
theorem ok_due {f : Addr} {fd : FuncData} (F : Fun K "_law_due_marks" "_law_due_marks" sDue f fd) (T : TxtL mg) : FnP P w K mg base CX0 1 f fd ["k"] spDue := by
  refine ok_hot F scDu (fun z vs H Q E h => ?_) (fun cdv z A outer s H vs Q E hot hr h => ?_)
  · obtain ⟨i, rfl, _⟩ := h
    rfl
  · obtain ⟨i, rfl, k⟩ := h
    refine ⟨_, pss_one (ps_ret (pe_op op_cat (pe_lcHot (z := z) (own := [("place", 1)]) (g := gName 1) hot (List.mem_singleton.mpr rfl) scDu.nd (pi_range1H (by rfl) T.range (pa_cons pe_int pa_nil)) (blkOk_by (N := ["k", "place"]) (sc := defScope sDue) (by decide +kernel))
        (fun _ _ _ _ _ => pg_name (i := 1) scDu.nd rfl (Or.inl rfl)) (fun _ _ _ _ _ => pe_cmpR op_eq (pv 1) (pv 0) (nomark _)))
      (pe_lst (pa_cons pe_bl (pa_cons pe_bl pa_nil))))), ?_⟩
    refine ⟨_, rfl, by decide, by decide, fun D nD => ?_⟩
    refine lc_range (lo := 0) (n := 10) (fun i' H2 => Same H H2 ∧ H2 D = some (.lst (((List.range 10).take i').map (fun j => V.bl (decide (i = j)))))) ⟨Same.upd nD, upd_same⟩ ?_ ?_
    · rintro i' H2 hi ⟨s2, hD⟩
      refine ⟨rfl, ?_⟩
      have eqb : decide (V.int (0 + (i' : Int)) = V.int (i : Int)) = decide (i = i') := by
        by_cases e : i = i'
        · subst e
          rw [decide_eq_true rfl, decide_eq_true (by rw [Int.zero_add])]
        · rw [decide_eq_false e, decide_eq_false (fun z => e (by injection z with z; omega))]
      refine ⟨_, rfl, _, rfl, ?_⟩
      refine ⟨rfl, _, hD, ?_, ?_⟩
      · rw [List.length_map, List.length_take]
        exact Nat.lt_of_le_of_lt (Nat.min_le_left _ _) (small1000 (by omega))
      · refine ⟨fun b o e => ?_, ?_⟩
        · rw [upd_ne (ne_of_none e nD)]
          exact s2 _ _ e
        · have hr10 : (List.range 10)[i']? = some i' := by
            rw [List.getElem?_range hi]
          rw [upd_same, List.take_add_one, hr10, List.map_append]
          show some (HO.lst (_ ++ [V.bl (decide (V.int (0 + (i' : Int)) = V.int (i : Int)))])) = _
          rw [eqb]
          rfl
    · rintro H2 ⟨s2, hD⟩
      refine ⟨(by show 2 ≤ sizeLine; decide), fun r nr => ?_⟩
      have nrD : D ≠ r := ne_of_none hD nr
      refine ⟨D, r, _, _, rfl, rfl, by rw [upd_ne nrD]; exact hD, upd_same, ?_, fun p np => ?_⟩
      · exact Nat.le_of_lt (small1000 (by rw [List.length_map, List.length_take, List.length_range]; decide))
      · refine k p _ ((s2.trans (Same.upd nr)).trans (Same.upd np)) ((s2.trans (Same.upd nr)).free np) ?_
        rw [upd_same]
        rfl
theorem only_ref {a : Addr} : ∀ u, RelV (.ref a) u → u = .ref a := fun _ r => r
theorem only_ty {t : String} : ∀ u, RelV (.ty t) u → u = .type t := fun _ r => r
theorem ok_marks {f fW : Addr} {fd : FuncData} {D : Nat → Addr} (F : Fun K "_law_marks" "_law_marks" sMarks f fd) (T : TxtL mg) (R : Errs K mg fW D) (mv : mg "ValueError" = none) : FnP P w K mg base CX0 1 f fd ["e"] (spMarks D) := by
  refine ok_hot F scMk (fun z vs H Q E h => ?_) (fun cdv z A outer s H vs Q E hot hr h => ?_)
  · obtain ⟨i, dd, fs, rfl, _⟩ := h
    rfl
  · obtain ⟨i, dd, fs, rfl, ⟨le, hcls, hdat, hdic⟩, hd, k⟩ := h
    have ec := R.cl i le
    refine ⟨_, pss_cons (ps_set (i := 1) scMk.nd rfl (.inl rfl) (pe_lst (pa_cons (pe_callB (call_isP (List.mem_singleton.mpr rfl) ec hcls hdat) (by rfl) T.isi (by decide +kernel) (pa_cons (pv 0) (pa_cons (pe_glob (v := .ref (D 0)) (by rfl) R.m0 rfl) pa_nil)))
          (pa_cons (pe_callB (call_isP (List.mem_singleton.mpr rfl) ec hcls hdat) (by rfl) T.isi (by decide +kernel) (pa_cons (pv 0) (pa_cons (pe_glob (v := .ref (D 1)) (by rfl) R.m1 rfl) pa_nil)))
          (pa_cons (pe_callB (call_isP (List.mem_singleton.mpr rfl) ec hcls hdat) (by rfl) T.isi (by decide +kernel) (pa_cons (pv 0) (pa_cons (pe_glob (v := .ref (D 2)) (by rfl) R.m2 rfl) pa_nil)))
          (pa_cons (pe_callB (call_isP (List.mem_singleton.mpr rfl) ec hcls hdat) (by rfl) T.isi (by decide +kernel) (pa_cons (pv 0) (pa_cons (pe_glob (v := .ref (D 3)) (by rfl) R.m3 rfl) pa_nil)))
          pa_nil))))))
      (pss_cons (ps_set (i := 2) scMk.nd rfl (.inl rfl) (pe_lst (pa_cons (pe_callB (call_isP (List.mem_singleton.mpr rfl) ec hcls hdat) (by rfl) T.isi (by decide +kernel) (pa_cons (pv 0) (pa_cons (pe_glob (v := .ref (D 4)) (by rfl) R.m4 rfl) pa_nil)))
          (pa_cons (pe_callB (call_isP (List.mem_singleton.mpr rfl) ec hcls hdat) (by rfl) T.isi (by decide +kernel) (pa_cons (pv 0) (pa_cons (pe_glob (v := .ref (D 5)) (by rfl) R.m5 rfl) pa_nil)))
          (pa_cons (pe_callB (call_isP (List.mem_singleton.mpr rfl) ec hcls hdat) (by rfl) T.isi (by decide +kernel) (pa_cons (pv 0) (pa_cons (pe_glob (v := .ref (D 6)) (by rfl) R.m6 rfl) pa_nil)))
          (pa_cons (pe_callB (call_isP (List.mem_singleton.mpr rfl) ec hcls hdat) (by rfl) T.isi (by decide +kernel) (pa_cons (pv 0) (pa_cons (pe_glob (v := .ref (D 7)) (by rfl) R.m7 rfl) pa_nil)))
          pa_nil))))))
      (pss_cons (ps_set (i := 3) scMk.nd rfl (.inl rfl) (pe_lst (pa_cons (pe_callB (call_isP (List.mem_singleton.mpr rfl) ec hcls hdat) (by rfl) T.isi (by decide +kernel) (pa_cons (pv 0) (pa_cons (pe_glob (v := .ref (D 8)) (by rfl) R.m8 rfl) pa_nil)))
          (pa_cons (pe_callB (call_isP (List.mem_singleton.mpr rfl) ec hcls hdat) (by rfl) T.isi (by decide +kernel) (pa_cons (pv 0) (pa_cons (pe_glob (v := .ref (D 9)) (by rfl) R.m9 rfl) pa_nil)))
          (pa_cons (pe_callB (call_isP (List.mem_singleton.mpr rfl) ec hcls hdat) (by rfl) T.isi (by decide +kernel) (pa_cons (pv 0) (pa_cons (pe_bltn (v := .ty "ValueError") (by rfl) mv (by decide +kernel) rfl) pa_nil)))
          (pa_cons (pe_callB (call_isP (List.mem_singleton.mpr rfl) ec hcls hdat) (by rfl) T.isi (by decide +kernel) (pa_cons (pv 0) (pa_cons (pe_glob (v := .ref (D 10)) (by rfl) R.m10 rfl) pa_nil)))
          pa_nil))))))
      (pss_one (ps_ret (pe_op op_cat (pe_op op_cat (pv 1) (pv 2)) (pv 3)))))), ?_⟩
    refine ⟨_, rfl, _, _, _, _, _, rfl, only_ref, R.kit i 0 le (by decide), hdic, hd, _, rfl, _, _, _, _, _, rfl, only_ref, R.kit i 1 le (by decide), hdic, hd, _, rfl, _, _, _, _, _, rfl, only_ref, R.kit i 2 le (by decide), hdic, hd, _, rfl, _, _, _, _, _, rfl, only_ref, R.kit i 3 le (by decide), hdic, hd, (by show 4 ≤ sizeLine; decide), fun r1 n1 => ?_⟩
    have s1 : Same H (upd H r1 (.lst [V.bl (decide (i = 0)), V.bl (decide (i = 1)), V.bl (decide (i = 2)), V.bl (decide (i = 3))])) := Same.upd n1
    have e1 : (upd H r1 (.lst [V.bl (decide (i = 0)), V.bl (decide (i = 1)), V.bl (decide (i = 2)), V.bl (decide (i = 3))])) r1 = some (.lst [V.bl (decide (i = 0)), V.bl (decide (i = 1)), V.bl (decide (i = 2)), V.bl (decide (i = 3))]) := upd_same
    generalize upd H r1 (.lst [V.bl (decide (i = 0)), V.bl (decide (i = 1)), V.bl (decide (i = 2)), V.bl (decide (i = 3))]) = H1 at s1 e1 ⊢
    have d1 := s1 _ _ hd
    refine ⟨_, rfl, _, _, _, _, _, rfl, only_ref, R.kit i 4 le (by decide), hdic, d1, _, rfl, _, _, _, _, _, rfl, only_ref, R.kit i 5 le (by decide), hdic, d1, _, rfl, _, _, _, _, _, rfl, only_ref, R.kit i 6 le (by decide), hdic, d1, _, rfl, _, _, _, _, _, rfl, only_ref, R.kit i 7 le (by decide), hdic, d1, (by show 4 ≤ sizeLine; decide), fun r2 n2 => ?_⟩
    have s2 : Same H1 (upd H1 r2 (.lst [V.bl (decide (i = 4)), V.bl (decide (i = 5)), V.bl (decide (i = 6)), V.bl (decide (i = 7))])) := Same.upd n2
    have e2 : (upd H1 r2 (.lst [V.bl (decide (i = 4)), V.bl (decide (i = 5)), V.bl (decide (i = 6)), V.bl (decide (i = 7))])) r2 = some (.lst [V.bl (decide (i = 4)), V.bl (decide (i = 5)), V.bl (decide (i = 6)), V.bl (decide (i = 7))]) := upd_same
    generalize upd H1 r2 (.lst [V.bl (decide (i = 4)), V.bl (decide (i = 5)), V.bl (decide (i = 6)), V.bl (decide (i = 7))]) = H2 at s2 e2 ⊢
    have d2 := s2 _ _ d1
    have e1' := s2 _ _ e1
    refine ⟨_, rfl, _, _, _, _, _, rfl, only_ref, R.kit i 8 le (by decide), hdic, d2, _, rfl, _, _, _, _, _, rfl, only_ref, R.kit i 9 le (by decide), hdic, d2, _, rfl, _, _, _, _, _, rfl, only_ty, R.kitV i le, hdic, d2, _, rfl, _, _, _, _, _, rfl, only_ref, R.kitW i le, hdic, d2, (by show 4 ≤ sizeLine; decide), fun r3 n3 => ?_⟩
    have s3 : Same H2 (upd H2 r3 (.lst [V.bl (decide (i = 8)), V.bl (decide (i = 9)), V.bl true, V.bl true])) := Same.upd n3
    have e3 : (upd H2 r3 (.lst [V.bl (decide (i = 8)), V.bl (decide (i = 9)), V.bl true, V.bl true])) r3 = some (.lst [V.bl (decide (i = 8)), V.bl (decide (i = 9)), V.bl true, V.bl true]) := upd_same
    generalize upd H2 r3 (.lst [V.bl (decide (i = 8)), V.bl (decide (i = 9)), V.bl true, V.bl true]) = H3 at s3 e3 ⊢
    have e2' := s3 _ _ e2
    have e1' := s3 _ _ e1'
    refine ⟨_, rfl, _, rfl, r1, r2, _, _, rfl, rfl, e1', e2', (by show 8 ≤ sizeLine; decide), fun p np => ?_⟩
    have s4 := Same.upd (o := .lst ([V.bl (decide (i = 0)), V.bl (decide (i = 1)), V.bl (decide (i = 2)), V.bl (decide (i = 3))] ++ [V.bl (decide (i = 4)), V.bl (decide (i = 5)), V.bl (decide (i = 6)), V.bl (decide (i = 7))])) np
    refine ⟨_, rfl, p, r3, _, _, rfl, rfl, upd_same, s4 _ _ e3, (by show 12 ≤ sizeLine; decide), fun q nq => ?_⟩
    have s5 := ((s1.trans s2).trans (s3.trans s4)).trans (Same.upd (o := .lst (([V.bl (decide (i = 0)), V.bl (decide (i = 1)), V.bl (decide (i = 2)), V.bl (decide (i = 3))] ++ [V.bl (decide (i = 4)), V.bl (decide (i = 5)), V.bl (decide (i = 6)), V.bl (decide (i = 7))]) ++ [V.bl (decide (i = 8)), V.bl (decide (i = 9)), V.bl true, V.bl true])) nq)
    refine k q _ s5 (((s1.trans s2).trans (s3.trans s4)).free nq) ?_
    rw [upd_same]
    rfl
end
end RX

set_option Elab.async false
set_option maxRecDepth 600000
namespace RX
open PySem L2 AU NumText
abbrev sRs : Stmt := topS 21
theorem scRs : FnScope ["text", "place"] ["text"] (defScope sRs) := ⟨rfl, rfl, rfl, by decide +kernel, rfl, by decide +kernel, by decide +kernel⟩
theorem tk_each : ∀ (s ds : List Nat), ∀ t ∈ tk s ds, t.length ≤ ds.length + s.length + 1
  | [], ds, t, ht => by
    have ht : t ∈ (if ds = [] then ([] : List (List Nat)) else [ds]) := ht
    split at ht
    · cases ht
    · rw [List.mem_singleton.mp ht]; simp
  | c :: s, ds, t, ht => by
    by_cases h : c = 45 ∨ (47 ≤ c ∧ c ≤ 57)
    · rw [tk_dig h] at ht
      have := tk_each s (ds ++ [c]) t ht
      rw [List.length_append, List.length_singleton] at this
      rw [List.length_cons]; omega
    · rw [tk_oth h] at ht
      rcases List.mem_append.mp ht with ht | ht
      · split at ht
        · cases ht
        · rw [List.mem_singleton.mp ht]; omega
      · rcases List.mem_cons.mp ht with ht | ht
        · rw [ht]; show 1 ≤ _; omega
        · have := tk_each s [] t ht
          rw [List.length_cons]
          have e : ([] : List Nat).length = 0 := rfl
          omega
theorem bad_none {s : List Nat} (h : bad s = none) : s.length ≤ 400 ∧ ∃ d r x, Run ⟨[], none, none, none⟩ (tk s []) ⟨[], d, r, some x⟩ := by
  unfold bad at h
  cases hs : scan .part 0 0 (s.take 400) with
  | inl k => rw [hs] at h; cases h
  | inr z =>
    obtain ⟨p, d⟩ := z
    rw [hs] at h
    have h : (if 400 < s.length then some 400 else if ends p = true ∧ d = 0 then none else some s.length) = none := h
    split at h
    · cases h
    · rename_i l
      split at h
      · rename_i e
        obtain ⟨e1, rfl⟩ := e
        rw [List.take_of_length_le (by omega)] at hs
        exact ⟨by omega, accept s .part 0 0 [] ⟨[], none, none, none⟩ p ⟨rfl, rfl, fun z => nomatch z⟩ hs e1⟩
      · cases h
def spRs (C : Addr) (D : Nat → Addr) : Sp := fun vs H Q E => ∃ s : Str, vs = [.str s] ∧ s.length ≤ 60000 ∧
  ((∃ k, bad (cl s) = some k ∧ ∀ dd H1 H', Same H H1 → Flies H1 (.int (k : Int)) dd H' → E (.ref (D 4)) (some dd) H') ∨
   (bad (cl s) = none ∧ ∃ (N : Addr → Prop) (d r : Option Tm) (x : Tm), Alc N H ∧ Run ⟨[], none, none, none⟩ (tk (cl s) []) ⟨[], d, r, some x⟩ ∧ ∀ (v : V) (H' : Hp), Same H H' → At C N H' v (whole d r x).made → Q v H'))
section
variable {P : Program} {w : World} {K : PySem.W.Frag} {mg : Str → Option Value} {base : Heap}
theorem ok_rs {f fWp fTk fBt fW C : Addr} {fd dWp dTk dBt dW : FuncData} {D : Nat → Addr} (F : Fun K "read_sum" "read_sum" sRs f fd) (R : Errs K mg fW D) (GW : FnOk P w K mg base CX0 1 fW dW ["self", "what"] (spW K)) (bW : Binds K dW ["self", "what"] [])
    (cWp : CalN P w K mg base "_wrong_place" 2 ["text"] spWp fWp dWp) (cTk : CalN P w K mg base "_tokens" 1 ["text"] spTk fTk dTk) (cBt : CalN P w K mg base "_built" 4 ["tokens"] (spBt C) fBt dBt) : FnOk P w K mg base (L2N.CX P w) 5 f fd ["text"] (spRs C D) := by
  refine XR.ok_out F scRs (fun vs H Q E h => ?_) (fun cdv A outer s H vs Q E hr h => ?_)
  · obtain ⟨s, rfl, _⟩ := h
    rfl
  · obtain ⟨s, rfl, ls, h⟩ := h
    have hr1 : Room 1 _ := hr.mono (by decide)
    have hr2 : Room 2 _ := hr.mono (by decide)
    have hr4 : Room 4 _ := hr
    refine ⟨_, pss_cons (ps_set (i := 1) scRs.nd rfl (.inl rfl) (pe_call cWp.G hr2 rfl cWp.m cWp.kp cWp.b .nil pass0 (pa_cons (pv 0) pa_nil)))
      (pss_cons (ps_if (pt_cmpR op_notN1 (pv 1) pe_non (nomark _)) (pss_one (L2N.ps_raise rfl (L2N.takes_of rfl rfl rfl rfl) (XR.pmk_err (R.oex 4 (by decide)) (R.ini 4 (by decide)) R.fn GW hr2 bW .nil pass0 (by rfl) R.m4 (pa_cons (pv 1) pa_nil)))) pss_nil)
      (pss_one (ps_ret (pe_call cBt.G hr4 rfl cBt.m cBt.kp cBt.b .nil pass0 (pa_cons (pe_call cTk.G hr1 rfl cTk.m cTk.kp cTk.b .nil pass0 (pa_cons (pv 0) pa_nil)) pa_nil))))), ?_⟩
    refine ⟨_, rfl, s, rfl, ls, fun H1 s1 => ?_⟩
    rcases h with ⟨k, hb, told⟩ | ⟨hb, N, d, r, x, al, run, told⟩
    · rw [hb]
      refine ⟨_, rfl, rfl, _, rfl, iteT' rfl ?_⟩
      exact ⟨_, rfl, (by show 1 ≤ 1000; decide), raise_in (R.oex 4 (by decide)) (R.no 4 (by decide)) fun dd H' fl => told dd H1 H' s1 fl⟩
    · rw [hb]
      refine ⟨_, rfl, rfl, _, rfl, iteF' rfl ?_⟩
      have l4 := (bad_none hb).1
      rw [cl_len] at l4
      refine ⟨_, rfl, s, rfl, l4, fun q H2 s2 nq hq => ?_⟩
      have s12 := s1.trans s2
      have lk := tk_len (cl s) []
      rw [cl_len] at lk
      refine ⟨N, q, tk (cl s) [], d, r, x, rfl, hq, run, al.keep (Same.keep (N := N) s12), by omega, fun t ht => ?_, fun v H3 s3 hv => told v H3 (s12.trans s3) hv⟩
      have := tk_each (cl s) [] t ht
      rw [cl_len] at this
      have e : ([] : List Nat).length = 0 := rfl
      omega
end
end RX

set_option Elab.async false
set_option maxRecDepth 100000
namespace RX
open PySem L2 L2H XH
theorem nothing_out {X : Cx} : L2N.Takes X (fun _ _ _ _ => False) := fun _ _ ⟨_, _, _, _, _, _, _, _, _, _, _, _, _, _, _, _, z⟩ => z.elim
theorem pass_at0 {X : Cx} {E : XK} : ∀ σ : L2.St, PassesAt CX0 X σ E := fun _ _ _ _ _ _ _ h => h.elim
theorem dpMarks {K : PySem.W.Frag} {H : Hp} {r : Addr} {i : Nat} (h : H r = some (.lst (marksV i))) : Dp K H (.ref r) (.list (marksD i)) :=
  .lst (SqL.of h) (.cons (.bl _) (.cons (.bl _) (.cons (.bl _) (.cons (.bl _) (.cons (.bl _) (.cons (.bl _) (.cons (.bl _) (.cons (.bl _) (.cons (.bl _) (.cons (.bl _) (.cons (.bl _) (.cons (.bl _) .nil))))))))))))
theorem eqMarks : ∀ i, i < 11 → PyData.eqv (.list (marksD i)) (.list (marksD i)) = true := by decide +kernel
theorem unitsM {k : Nat} {A : Around} (r : Room k A) (h : Option Value) : (A.mark h).units + 64 < cLine := by
  have := r.un
  show A.units + 64 < cLine
  omega
/-- within a suite: the marks of the error, compared with those of D i -/
def tMrk (a : Addr) (cls : Value) (d : Option Addr) (D : Nat → Addr) (ta : TE) (td : TE) : TE := fun σ H Q => ta σ H fun x H1 => x = .ref a ∧ ∃ (i : Nat) (dd : Addr) (fs : List (Str × V)), i ≤ 10 ∧ cls = .ref (D i) ∧ d = some dd ∧ H1 dd = some (.xd fs) ∧
  ∀ H2, Same H1 H2 → td σ H2 fun y H3 => y = .int (i : Int) ∧ Same H2 H3 ∧ ∀ H', Same H3 H' → Q (.bl true) H'
def MonoE (t : TE) : Prop := ∀ σ H (Q Q' : VK), (∀ v h, Q v h → Q' v h) → t σ H Q → t σ H Q'
theorem mono_var (i : Nat) : MonoE (tVar i) := fun _ _ _ _ im ⟨v, e, q⟩ => ⟨v, e, im _ _ q⟩
theorem mono_c (v : V) : MonoE (tC v) := fun _ _ _ _ im q => im _ _ q
theorem pe_imp {X : Cx} {e : Expr} {t t' : TE} (im : ∀ σ H Q, t' σ H Q → t σ H Q) (h : PE X e t) : PE X e t' := ⟨fun pins s σ H Q I told => h.run pins s σ H Q I (im _ _ _ told)⟩
abbrev E00 : L2.St → XK := fun _ _ _ _ => False
section
variable {K : PySem.W.Frag} {D : Nat → Addr} {a : Addr} {oe : Obj} {cls : Value} {d : Option Addr} {ta td : TE}
theorem mrk_told (ma : MonoE ta) (md : MonoE td) (hz : L2N.Zn cls d oe) (hf : ∃ vs, oe.data = .fields vs) : ∀ σ H Q, tMrk a cls d D ta td σ H Q → tOp (rEqD K) (tCallS (spMarks D (a, oe)) E00 (tCons ta tNil)) (tCallS (spDue (a, oe)) E00 (tCons td tNil)) σ H Q := by
  intro σ H Q told
  refine ma σ H _ _ (fun x H1 told => ?_) told
  obtain ⟨rfl, i, dd, fs, le, rfl, rfl, at_d, told⟩ := told
  refine ⟨i, dd, fs, rfl, ⟨le, hz.1, hf, hz.2.1⟩, at_d, fun r H2 s2 nr hr => ?_⟩
  refine md σ H2 _ _ (fun y H3 told => ?_) (told H2 s2)
  obtain ⟨rfl, s3, told⟩ := told
  refine ⟨i, rfl, fun r' H4 s4 nr' hr' => ?_⟩
  refine ⟨_, _, dpMarks (s4 _ _ (s3 _ _ hr)), dpMarks hr', rfl, rfl, ?_⟩
  rw [eqMarks i (Nat.lt_succ_of_le le)]
  exact told H4 s4
theorem hot_of {A : Around} (hz : L2N.Zn cls d oe) (hf : ∃ vs, oe.data = .fields vs) : Hot1 (A.mark (some (.ref a))) (a, oe) := by
  obtain ⟨vs, ed⟩ := hf
  exact ⟨rfl, vs, ed, hz.2.2 vs ed⟩
end
/-- the two defs that a suite asks -/
structure CalP (P : Program) (w : World) (K : PySem.W.Frag) (mg : Str → Option Value) (base : Heap) (x : Str) (k : Nat) (ps : List Str) (sp : SpP) (f : Addr) (fd : FuncData) : Prop where
  G : FnP P w K mg base CX0 k f fd ps sp
  m : mg x = some (.ref f)
  kp : PySem.W.keepIn K (.ref f) = true
  b : Binds K fd ps []
theorem PSs_imp {X : Cx} {b : List Stmt} {t t' : TS} (h : PSs X b t) (im : ∀ M σ H, t' M σ H → t M σ H) : PSs X b t' := ⟨fun pins s σ H D I told => h.run pins s σ H D I (im _ _ _ told)⟩
end RX

set_option Elab.async false
set_option maxRecDepth 100000
namespace RX
open PySem L2
open RQ (Bt)
abbrev sSameT : Stmt := topS 44
theorem scSt : FnScope ["actual", "due", "waiting", "pair", "one", "two", "k"] ["actual", "due"] (defScope sSameT) := ⟨rfl, rfl, rfl, by decide +kernel, rfl, by decide +kernel, by decide +kernel⟩
theorem split_last {α : Type} (l : List α) (h : l ≠ []) : ∃ l0 x, l = l0 ++ [x] := ⟨l.dropLast, l.getLast h, (List.dropLast_concat_getLast h).symm⟩
def Tm.kids : Tm → List Tm
  | .num _ => []
  | .letter _ => []
  | .plus a b => [a, b]
  | .row a b => [a, b]
  | .star a => [a]
def Tm.deep : Tm → Bool
  | .num _ => false
  | .letter _ => false
  | _ => true
theorem deep_kind : ∀ {t : Tm}, t.deep = true → ¬ t.kind = "number" ∧ ¬ t.kind = "letter"
  | .plus _ _, _ => ⟨(by decide +kernel : ¬ ("plus" : Str) = "number"), (by decide +kernel : ¬ ("plus" : Str) = "letter")⟩
  | .row _ _, _ => ⟨(by decide +kernel : ¬ ("row" : Str) = "number"), (by decide +kernel : ¬ ("row" : Str) = "letter")⟩
  | .star _, _ => ⟨(by decide +kernel : ¬ ("star" : Str) = "number"), (by decide +kernel : ¬ ("star" : Str) = "letter")⟩
theorem deep_sz : ∀ {t : Tm}, t.deep = true → szs t.kids + 1 = t.sz ∧ t.kids.length ≤ 2
  | .plus a b, _ => ⟨by show a.sz + (b.sz + 0) + 1 = a.sz + b.sz + 1; omega, Nat.le_refl _⟩
  | .row a b, _ => ⟨by show a.sz + (b.sz + 0) + 1 = a.sz + b.sz + 1; omega, Nat.le_refl _⟩
  | .star a, _ => ⟨rfl, (by decide : 1 ≤ 2)⟩
theorem its_two {C : Addr} {N : Addr → Prop} {H : Hp} {x y : V} {d e : Dat} (h : At C N H x d) (k : At C N H y e) : Its C N H [x, y] [d, e] := Its.cons h (Its.cons k Its.nil)
theorem deep_made {C : Addr} {N : Addr → Prop} {H : Hp} {p : Addr} : ∀ {t : Tm}, t.deep = true → At C N H (.ref p) t.made → ∃ xs, H p = some (.tup (.str t.kind :: xs)) ∧ Its C N H xs (t.kids.map Tm.made)
  | .plus _ _, _, h => by obtain ⟨_, x, y, e, hp, hx, hy, _⟩ := at_two h; cases e; exact ⟨_, hp, its_two hx hy⟩
  | .row _ _, _, h => by obtain ⟨_, x, y, e, hp, hx, hy, _⟩ := at_two h; cases e; exact ⟨_, hp, its_two hx hy⟩
  | .star _, _, h => by obtain ⟨_, x, e, hp, hx, _⟩ := at_one h; cases e; exact ⟨_, hp, Its.cons hx Its.nil⟩
theorem deep_own {C : Addr} {N : Addr → Prop} {H : Hp} {p : Addr} : ∀ {t : Tm}, t.deep = true → At C N H (.ref p) t.own → ∃ xs, H p = some (.tup (.str t.kind :: xs)) ∧ Its C N H xs (t.kids.map Tm.own)
  | .plus _ _, _, h => by obtain ⟨_, x, y, e, hp, hx, hy, _⟩ := at_two h; cases e; exact ⟨_, hp, its_two hx hy⟩
  | .row _ _, _, h => by obtain ⟨_, x, y, e, hp, hx, hy, _⟩ := at_two h; cases e; exact ⟨_, hp, its_two hx hy⟩
  | .star _, _, h => by obtain ⟨_, x, e, hp, hx, _⟩ := at_one h; cases e; exact ⟨_, hp, Its.cons hx Its.nil⟩
/-- both are tuples of as many, with the kind first -/
theorem both_head {C : Addr} {N : Addr → Prop} {H : Hp} {p q : Addr} : ∀ {t : Tm}, At C N H (.ref p) t.made → At C N H (.ref q) t.own → ∃ xs ys, H p = some (.tup xs) ∧ H q = some (.tup ys) ∧ xs.length = ys.length ∧ xs[0]? = some (.str t.kind) ∧ ys[0]? = some (.str t.kind)
  | .num _, h, k => by obtain ⟨_, _, e, hp, _⟩ := at_one h; cases e; obtain ⟨_, _, e, hq, _⟩ := at_one k; cases e; exact ⟨_, _, hp, hq, rfl, rfl, rfl⟩
  | .letter _, h, k => by obtain ⟨_, _, e, hp, _⟩ := at_one h; cases e; obtain ⟨_, _, e, hq, _⟩ := at_one k; cases e; exact ⟨_, _, hp, hq, rfl, rfl, rfl⟩
  | .star _, h, k => by obtain ⟨_, _, e, hp, _⟩ := at_one h; cases e; obtain ⟨_, _, e, hq, _⟩ := at_one k; cases e; exact ⟨_, _, hp, hq, rfl, rfl, rfl⟩
  | .plus _ _, h, k => by obtain ⟨_, _, _, e, hp, _⟩ := at_two h; cases e; obtain ⟨_, _, _, e, hq, _⟩ := at_two k; cases e; exact ⟨_, _, hp, hq, rfl, rfl, rfl⟩
  | .row _ _, h, k => by obtain ⟨_, _, _, e, hp, _⟩ := at_two h; cases e; obtain ⟨_, _, _, e, hq, _⟩ := at_two k; cases e; exact ⟨_, _, hp, hq, rfl, rfl, rfl⟩
def pairD (t : Tm) : Dat := .tup [t.made, t.own]
theorem at_pairD {C : Addr} {N : Addr → Prop} {H : Hp} {v : V} {t : Tm} (h : At C N H v (pairD t)) : ∃ r p q, v = .ref r ∧ H r = some (.tup [.ref p, .ref q]) ∧ At C N H (.ref p) t.made ∧ At C N H (.ref q) t.own := by
  obtain ⟨p, rfl⟩ := At.tupV h
  obtain ⟨xs, hp, l, e⟩ := At.tupE h
  match xs, l with
  | [v0, v1], _ =>
    have h0 := e 0 v0 _ rfl rfl
    have h1 := e 1 v1 _ rfl rfl
    obtain ⟨x, rfl⟩ := made_ref h0
    obtain ⟨y, rfl⟩ := own_ref h1
    exact ⟨p, x, y, rfl, hp, h0, h1⟩
def spSt (C : Addr) : Sp := fun vs H Q _ => ∃ (N : Addr → Prop) (p q : Addr) (t : Tm), vs = [.ref p, .ref q] ∧ At C N H (.ref p) t.made ∧ At C N H (.ref q) t.own ∧ Alc N H ∧ t.sz ≤ 480 ∧ ∀ (H' : Hp), Same H H' → Q (.bl true) H'
section
variable {P : Program} {w : World} {K : PySem.W.Frag} {mg : Str → Option Value} {base : Heap}
theorem ok_st {f fS C : Addr} {fd dS : FuncData} (F : Fun K "_law_same_term" "_law_same_term" sSameT f fd) (T : TxtL mg) (TPstr : mg "str" = none) (TPtup : mg "tuple" = none) (cSa : CalN P w K mg base "_law_same" 2 ["actual", "due"] (spSame C) fS dS) : FnOk P w K mg base CX0 3 f fd ["actual", "due"] (spSt C) := by
  refine F.ok scSt (fun vs H Q E h => ?_) (fun cdv A outer s H vs Q E hr h => ?_)
  · obtain ⟨N, p, q, t, rfl, _⟩ := h
    rfl
  · obtain ⟨N, p, q, t, rfl, hp, hq, al, h480, k⟩ := h
    have hr2 : Room 2 _ := hr
    refine ⟨_, pss_cons (ps_set (i := 2) scSt.nd rfl (.inl rfl) (pe_lst (pa_cons (pe_tup (pa_cons (pv 0) (pa_cons (pv 1) pa_nil))) pa_nil)))
      (pss_cons (ps_while PassesOwn.never (pt_cmpR op_gt (pe_callB call_len_seq (by rfl) T.len PySem.boot_len (pa_cons (pv 2) pa_nil)) pe_int (nomark _))
        (pss_cons (ps_set (i := 3) scSt.nd rfl (.inl rfl) (pe_bm0 PySem.F.plainAttrs_list PySem.F.slot_list_pop PySem.F.type_list_pop mt_pop (pv 2)))
        (pss_cons (ps_set (i := 4) scSt.nd rfl (.inl rfl) (pe_ix ix_tup (pv 3) pe_int (fun _ _ => rfl)))
        (pss_cons (ps_set (i := 5) scSt.nd rfl (.inl rfl) (pe_ix ix_tup (pv 3) pe_int (fun _ _ => rfl)))
        (pss_cons (ps_if (PW.pt (pw_or (pt_not (pt_val (pe_callB call_isi (by rfl) T.isi (by decide +kernel) (pa_cons (pv 4) (pa_cons (pe_bltn (v := .ty "tuple") (by rfl) TPtup (by decide +kernel) rfl) pa_nil))))) (pw_or (pt_cmpR op_ne (pe_callB call_len_seq (by rfl) T.len PySem.boot_len (pa_cons (pv 4) pa_nil)) (pe_callB call_len_seq (by rfl) T.len PySem.boot_len (pa_cons (pv 5) pa_nil)) (nomark _)) (pw_or (pt_not (pt_val (pe_callB call_isi (by rfl) T.isi (by decide +kernel) (pa_cons (pe_ix ix_tup (pv 4) pe_int (fun _ _ => rfl)) (pa_cons (pe_bltn (v := .ty "str") (by rfl) TPstr (by decide +kernel) rfl) pa_nil))))) (pw_or1 (pt_cmpR op_ne (pe_ix ix_tup (pv 4) pe_int (fun _ _ => rfl)) (pe_ix ix_tup (pv 5) pe_int (fun _ _ => rfl)) (nomark _)))))))
          (pss_one ps_never)
          pss_nil)
        (pss_one (ps_if (pt_cmpR op_eq (pe_ix ix_tup (pv 5) pe_int (fun _ _ => rfl)) pe_str (nomark _))
          (pss_one (ps_if (pt_not (pt_val (pe_call cSa.G hr2 rfl cSa.m cSa.kp cSa.b .nil pass0 (pa_cons (pe_ix ix_tup (pv 4) pe_int (fun _ _ => rfl)) (pa_cons (pe_ix ix_tup (pv 5) pe_int (fun _ _ => rfl)) pa_nil)))))
            (pss_one ps_never)
            pss_nil))
          (pss_one (ps_if (pt_cmpR op_eq (pe_ix ix_tup (pv 5) pe_int (fun _ _ => rfl)) pe_str (nomark _))
            (pss_one (ps_if (PW.pt (pw_or (pt_not (pt_val (pe_callB call_isi (by rfl) T.isi (by decide +kernel) (pa_cons (pe_ix ix_tup (pv 4) pe_int (fun _ _ => rfl)) (pa_cons (pe_bltn (v := .ty "str") (by rfl) TPstr (by decide +kernel) rfl) pa_nil))))) (pw_or1 (pt_cmpR op_ne (pe_ix ix_tup (pv 4) pe_int (fun _ _ => rfl)) (pe_ix ix_tup (pv 5) pe_int (fun _ _ => rfl)) (nomark _)))))
              (pss_one ps_never)
              pss_nil))
            (pss_one (ps_for PassesOwn.never rfl (pi_range2 (by rfl) T.range (pa_cons pe_int (pa_cons (pe_callB call_len_seq (by rfl) T.len PySem.boot_len (pa_cons (pv 5) pa_nil)) pa_nil))) (pg_name (i := 6) scSt.nd rfl (.inl rfl))
              (pss_one (ps_expr (pe_bm PySem.F.plainAttrs_list PySem.F.slot_list_append PySem.F.type_list_append mt_append (pv 2) (pa_cons (pe_tup (pa_cons (pe_ix ix_tup (pv 4) (pv 6) (fun _ _ => rfl)) (pa_cons (pe_ix ix_tup (pv 5) (pv 6) (fun _ _ => rfl)) pa_nil))) pa_nil)))))))))))))))
      (pss_one (ps_ret pe_bl))), ?_⟩
    refine ⟨_, rfl, _, rfl, (by show 2 ≤ sizeLine; decide), fun l nl => ⟨(by show 1 ≤ sizeLine; decide), fun D nD => ?_⟩⟩
    have s1 := Same.upd (o := .tup [.ref p, .ref q]) nl
    have hl : At C N (upd H l (.tup [.ref p, .ref q])) (.ref l) (pairD t) := At.newT al nl rfl (itemsC hp (items1 hq))
    have al1 : Alc N (upd H l (.tup [.ref p, .ref q])) := al.keep (Same.keep (N := N) s1)
    generalize upd H l (.tup [.ref p, .ref q]) = H1 at *
    have s2 := Same.upd (o := .lst [.ref l]) nD
    have hD := upd_same (H := H1) (a := D) (o := .lst [.ref l])
    have hl2 := (hl.and nD).same s2
    have al2 : Alc (And1 N D) (upd H1 D (.lst [.ref l])) := (al1.keep (Same.keep (N := N) s2)).and (by rw [hD]; intro z; cases z)
    have nD0 : H D = none := (Same.keep (N := N) s1).free nD
    have s12 := s1.trans s2
    generalize upd H1 D (.lst [.ref l]) = H2 at *
    refine ⟨fun m σ G => ∃ (ts : List Tm) (xs : List V) (o3 o4 o5 o6 : Option V), σ = [some (.ref p), some (.ref q), some (.ref D), o3, o4, o5, o6] ∧ G D = some (.lst xs) ∧ Its C (And1 N D) G xs (ts.map pairD) ∧ szs ts = m ∧ m ≤ 480 ∧ Same H G ∧ Alc (And1 N D) G,
      ⟨t.sz, [t], _, none, none, none, none, rfl, hD, Its.cons hl2 Its.nil, rfl, h480, s12, al2⟩, ?_⟩
    rintro m σ G ⟨ts, xs, o3, o4, o5, o6, rfl, hX, hI, hm, h480', sG, alG⟩
    have lx : xs.length = ts.length := by rw [hI.1, List.length_map]
    refine ⟨_, rfl, D, xs, rfl, .inl (SqL.of hX), _, _, rfl, rfl, _, rfl, ?_⟩
    by_cases he : ts = []
    · subst he
      have : xs = [] := List.eq_nil_of_length_eq_zero lx
      subst this
      exact iteF' rfl (k G sG)
    · obtain ⟨ts, t, rfl⟩ := split_last ts he
      have hx0 : xs ≠ [] := fun z => by rw [z, List.length_append] at lx; simp at lx
      obtain ⟨xs, x, rfl⟩ := split_last xs hx0
      have lx : xs.length = ts.length := by rw [List.length_append, List.length_append] at lx; simpa using lx
      have hI0 : Its C (And1 N D) G xs (ts.map pairD) := by
        have := hI.take xs.length
        rw [List.take_left, List.map_append] at this
        rw [show xs.length = (ts.map pairD).length by rw [List.length_map, lx], List.take_left] at this
        exact this
      have hi : At C (And1 N D) G x (pairD t) := hI.2 xs.length x (pairD t) (by rw [List.getElem?_append_right (Nat.le_refl _), Nat.sub_self]; rfl) (by rw [List.map_append, List.getElem?_append_right (by rw [List.length_map]; omega), List.length_map, lx, Nat.sub_self]; rfl)
      refine iteT' (decide_eq_true (by rw [List.length_append, List.length_singleton]; omega)) ?_
      refine ⟨_, fun _ _ h => h, ?_⟩
      have hlast : (xs ++ [x])[(xs ++ [x]).length - 1]? = some x := by
        rw [List.length_append, List.length_singleton, Nat.add_sub_cancel, List.getElem?_append_right (Nat.le_refl _), Nat.sub_self]
        rfl
      refine ⟨_, rfl, .inl ⟨rfl, _, SqL.of hX⟩, D, _, x, rfl, rfl, hX, hlast, ?_⟩
      rw [List.dropLast_concat]
      have kN : Keep (And1 N D) G (upd G D (.lst xs)) := Keep.upd (.inr rfl)
      have hX1 := upd_same (H := G) (a := D) (o := .lst xs)
      have hI1 := hI0.keep kN
      have hi1 := hi.keep kN
      have sG1 : Same H (upd G D (.lst xs)) := fun b o hb => by rw [upd_ne (ne_of_none hb nD0)]; exact sG _ _ hb
      have al1 := alG.keep kN
      generalize upd G D (.lst xs) = G1 at *
      have hwt : szs ts + t.sz = m := by rw [szs_app] at hm; exact hm
      obtain ⟨r, p1, q1, rfl, hr', hP, hQ⟩ := at_pairD hi1
      refine ⟨_, rfl, r, _, 0, _, rfl, rfl, SqT.of hr', rfl, _, rfl, r, _, 1, _, rfl, rfl, SqT.of hr', rfl, ?_⟩
      obtain ⟨us, vs, hU, hV, luv, u0, v0⟩ := both_head hP hQ
      refine ⟨_, rfl, _, _, _, _, true, rfl, .ty _, .base (.tup hU), kit_ty (by decide +kernel), true, rfl, iteF ?_⟩
      refine ⟨_, rfl, p1, us, rfl, .inr (SqT.of hU), _, rfl, q1, vs, rfl, .inr (SqT.of hV), rfl, _, rfl, iteF' (by rw [luv, decide_eq_true rfl]; rfl) ?_⟩
      refine ⟨_, rfl, p1, us, 0, _, rfl, rfl, SqT.of hU, at0 u0, _, _, _, _, true, rfl, .ty _, .base (.str _), kit_ty (by decide +kernel), true, rfl, iteF ?_⟩
      refine ⟨_, rfl, p1, us, 0, _, rfl, rfl, SqT.of hU, at0 u0, _, rfl, q1, vs, 0, _, rfl, rfl, SqT.of hV, at0 v0, rfl, _, rfl, iteF' (by rw [decide_eq_true rfl]; rfl) ?_⟩
      have tp := t.sz_pos
      cases hd : t.deep with
      | true =>
        obtain ⟨nk1, nk2⟩ := deep_kind hd
        obtain ⟨dz, dl⟩ := deep_sz hd
        refine ⟨_, rfl, q1, vs, 0, _, rfl, rfl, SqT.of hV, at0 v0, rfl, _, rfl, iteF' (seqF nk1) ?_⟩
        refine ⟨_, rfl, q1, vs, 0, _, rfl, rfl, SqT.of hV, at0 v0, rfl, _, rfl, iteF' (seqF nk2) ?_⟩
        obtain ⟨ms, hM, hIM⟩ := deep_made hd hP
        obtain ⟨os, hO, hIO⟩ := deep_own hd hQ
        have lo : os.length = t.kids.length := by rw [hIO.1, List.length_map]
        have lm : ms.length = t.kids.length := by rw [hIM.1, List.length_map]
        have en : (((V.str t.kind :: os).length : Nat) : Int) - 1 = (t.kids.length : Int) := by rw [List.length_cons, lo]; omega
        refine ⟨_, rfl, q1, _, rfl, .inr (SqT.of hO), 1, _, rfl, ⟨by decide, by decide, by omega, by omega⟩, ?_⟩
        rw [show ((((V.str t.kind :: os).length : Nat) : Int) - 1).toNat = t.kids.length by omega]
        refine for_range (lo := 1) (n := t.kids.length) (fun i σ G => ∃ (zs : List V) (o6 : Option V), σ = [some (.ref p), some (.ref q), some (.ref D), some (.ref r), some (.ref p1), some (.ref q1), o6] ∧ G D = some (.lst zs) ∧ Its C (And1 N D) G zs ((ts ++ t.kids.take i).map pairD) ∧ Keep (And1 N D) G1 G ∧ Same H G)
          ⟨xs, _, rfl, hX1, by rw [List.take_zero, List.append_nil]; exact hI1, Keep.refl, sG1⟩ ?_ ?_
        · rintro i σ G hi ⟨zs, o6, rfl, hZ, hIZ, kG, sG2⟩
          have hp1 : ¬ And1 N D p1 := hP.notin
          have hq1 : ¬ And1 N D q1 := hQ.notin
          have hM2 := kG.k _ _ hM hp1
          have hO2 := kG.k _ _ hO hq1
          have ht : t.kids[i]? = some (t.kids[i]'hi) := List.getElem?_eq_getElem hi
          obtain ⟨x, hx, hx'⟩ := (hIM.keep kG).get ht
          obtain ⟨y, hy, hy'⟩ := (hIO.keep kG).get ht
          have ei : (1 : Int) + (i : Int) = ((i + 1 : Nat) : Int) := by omega
          have lz : zs.length ≤ 960 := by
            have e := hIZ.1
            have : ts.length ≤ szs ts := by
              cases h0 : ts[0]? with
              | none => rw [List.getElem?_eq_none_iff] at h0; omega
              | some z => have := szs_head h0; have := z.sz_pos; omega
            rw [List.length_map, List.length_append, List.length_take] at e
            omega
          have alZ : Alc (And1 N D) G := al1.keep kG
          refine ⟨_, rfl, .inl ⟨rfl, _, SqL.of hZ⟩, _, rfl, _, rfl, p1, _, _, _, rfl, rfl, SqT.of hM2, atN ei hx, _, rfl, _, rfl, q1, _, _, _, rfl, rfl, SqT.of hO2, atN ei hy, (by show 2 ≤ sizeLine; decide), fun l nl => ?_⟩
          have s3 := Same.upd (o := .tup [x, y]) nl
          have hZ3 := s3 _ _ hZ
          have hnew : At C (And1 N D) (upd G l (.tup [x, y])) (.ref l) (pairD (t.kids[i]'hi)) := At.newT alZ nl rfl (itemsC hx' (items1 hy'))
          have hIZ3 := hIZ.keep (Same.keep s3)
          have sG3 := sG2.trans s3
          have k3 := kG.trans (Same.keep (N := And1 N D) s3)
          generalize upd G l (.tup [x, y]) = G3 at *
          refine ⟨D, zs, _, rfl, rfl, hZ3, small1000 (by omega), ?_⟩
          have kN2 : Keep (And1 N D) G3 (upd G3 D (.lst (zs ++ [.ref l]))) := Keep.upd (.inr rfl)
          refine ⟨_, _, rfl, upd_same, ?_, k3.trans kN2, fun b o hb => by rw [upd_ne (ne_of_none hb nD0)]; exact sG3 _ _ hb⟩
          rw [List.take_succ, ht]
          show Its C (And1 N D) _ _ ((ts ++ (t.kids.take i ++ [t.kids[i]'hi])).map pairD)
          rw [← List.append_assoc, List.map_append]
          exact (hIZ3.app (Its.cons hnew Its.nil)).keep kN2
        · rintro σ G ⟨zs, o6, rfl, hZ, hIZ, kG, sG2⟩
          rw [List.take_of_length_le (Nat.le_refl _)] at hIZ
          exact ⟨szs ts + szs t.kids, by omega, ts ++ t.kids, zs, _, _, _, _, rfl, hZ, hIZ, szs_app _ _, by omega, sG2, al1.keep kG⟩
      | false =>
        cases t with
        | num c =>
          obtain ⟨_, x, e, hp', hx, _⟩ := at_one hP
          cases e
          obtain ⟨_, y, e, hq', hy, _⟩ := at_one hQ
          cases e
          obtain ⟨x, rfl, hR⟩ := hx.ratV
          obtain ⟨y, rfl, hy, _⟩ := hy.pair
          refine ⟨_, rfl, q1, vs, 0, _, rfl, rfl, SqT.of hV, at0 v0, rfl, _, rfl, iteT' (seqT rfl) ?_⟩
          refine ⟨_, rfl, p1, _, 1, _, rfl, rfl, SqT.of hp', rfl, _, rfl, q1, _, 1, _, rfl, rfl, SqT.of hq', rfl, x, y, _, _, rfl, hR, hy, true, rfl, iteF ?_⟩
          exact ⟨szs ts, by omega, ts, xs, _, _, _, _, rfl, hX1, hI1, rfl, by omega, sG1, al1⟩
        | letter c =>
          obtain ⟨_, x, e, hp', hx, _⟩ := at_one hP
          cases e
          obtain ⟨_, y, e, hq', hy, _⟩ := at_one hQ
          cases e
          have := hx.strV
          subst this
          have := hy.strV
          subst this
          refine ⟨_, rfl, q1, vs, 0, _, rfl, rfl, SqT.of hV, at0 v0, rfl, _, rfl, iteF' (seqF (by decide +kernel : ¬ ("letter" : Str) = "number")) ?_⟩
          refine ⟨_, rfl, q1, vs, 0, _, rfl, rfl, SqT.of hV, at0 v0, rfl, _, rfl, iteT' (seqT rfl) ?_⟩
          refine ⟨_, rfl, p1, _, 1, _, rfl, rfl, SqT.of hp', rfl, _, _, _, _, true, rfl, .ty _, .base (.str _), kit_ty (by decide +kernel), true, rfl, iteF ?_⟩
          refine ⟨_, rfl, p1, _, 1, _, rfl, rfl, SqT.of hp', rfl, _, rfl, q1, _, 1, _, rfl, rfl, SqT.of hq', rfl, rfl, _, rfl, iteF' (by rw [decide_eq_true rfl]; rfl) ?_⟩
          exact ⟨szs ts, by omega, ts, xs, _, _, _, _, rfl, hX1, hI1, rfl, by omega, sG1, al1⟩
        | plus a b => cases hd
        | row a b => cases hd
        | star a => cases hd
end
end RX

set_option Elab.async false
set_option maxRecDepth 100000
namespace RX
open PySem L2 AU NumText
/-! ### texts of a term with brackets at will -/
theorem run_app : ∀ {xs ys : List (List Nat)} {b b1 b2 : BS}, Run b xs b1 → Run b1 ys b2 → Run b (xs ++ ys) b2
  | [], _, _, _, _, h, k => by
    have h : _ = _ := h
    rw [h]; exact k
  | _ :: _, _, _, _, _, ⟨b, a, h⟩, k => ⟨b, a, run_app h k⟩
theorem tk_split {c : Nat} (hc : ¬ (c = 45 ∨ (47 ≤ c ∧ c ≤ 57))) {r : List Nat} : ∀ (s ds : List Nat), tk (s ++ c :: r) ds = tk s ds ++ [c] :: tk r []
  | [], ds => tk_oth hc
  | x :: s, ds => by
    by_cases h : x = 45 ∨ (47 ≤ x ∧ x ≤ 57)
    · show tk (x :: (s ++ c :: r)) ds = _
      rw [tk_dig h, tk_dig h]
      exact tk_split hc s _
    · show tk (x :: (s ++ c :: r)) ds = _
      rw [tk_oth h, tk_oth h, tk_split hc s []]
      simp
theorem tk_num : ∀ (s ds : List Nat), (∀ c ∈ s, c = 45 ∨ (47 ≤ c ∧ c ≤ 57)) → ds ++ s ≠ [] → tk s ds = [ds ++ s]
  | [], ds, _, ne => by
    rw [List.append_nil] at ne ⊢
    exact if_neg ne
  | x :: s, ds, h, _ => by
    rw [tk_dig (h x (List.mem_cons_self ..)), tk_num s (ds ++ [x]) (fun c hc => h c (List.mem_cons_of_mem _ hc)) (by simp)]
    simp
theorem leaf_signs {s : List Nat} {q : Rat} (h : LeafOf s (.num q)) : (∀ c ∈ s, c = 45 ∨ (47 ≤ c ∧ c ≤ 57)) ∧ s ≠ [] := by
  have hi : ∀ {T : List Nat} {n : Int}, IntF T n → (∀ c ∈ T, c = 45 ∨ (47 ≤ c ∧ c ≤ 57)) ∧ T ≠ [] := fun {T n} h => by
    rcases h with ⟨a, b, _⟩ | ⟨cs, rfl, a, b, _⟩
    · exact ⟨fun c hc => .inr (by have := a c hc; omega), b⟩
    · refine ⟨fun c hc => ?_, by simp⟩
      rcases List.mem_cons.mp hc with z | z
      · exact .inl z
      · exact .inr (by have := a c z; omega)
  cases h with
  | int h => exact hi h
  | frac h a ne nz =>
    obtain ⟨h1, h2⟩ := hi h
    refine ⟨fun c hc => ?_, by simp⟩
    rcases List.mem_append.mp hc with z | z
    · exact h1 c z
    · rcases List.mem_cons.mp z with z | z
      · exact .inr (by omega)
      · exact .inr (by have := a c z; omega)
/-- a text of the term: at level 0 any, at level 1 no sum outside of brackets, at level 2 no row either -/
inductive Lo : Nat → Tm → List Nat → Prop where
  | num {l q s} (h : LeafOf s (.num q)) : Lo l (.num q) s
  | letter {l c} (h : 97 ≤ c ∧ c ≤ 100) : Lo l (.letter (sg c)) [c]
  | star {l t s} (h : Lo 2 t s) : Lo l (.star t) (s ++ [42])
  | row {l a b s u} (h : Lo 1 a s) (k : Lo 2 b u) (m : l ≤ 1) : Lo l (.row a b) (s ++ 46 :: u)
  | plus {a b s u} (h : Lo 0 a s) (k : Lo 1 b u) : Lo 0 (.plus a b) (s ++ 43 :: u)
  | paren {l t s} (h : Lo 0 t s) : Lo l t (40 :: (s ++ [41]))
/-- what stands behind a text of the level -/
def Told (l : Nat) (d r d' r' : Option Tm) (x t : Tm) : Prop := (2 ≤ l → d' = d ∧ r' = r ∧ x = t) ∧ (l = 1 → d' = d ∧ two .row r' x = t) ∧ (l = 0 → whole d' r' x = t)
theorem told_part {l : Nat} {d r : Option Tm} {t : Tm} (h1 : l ≤ 1 → r = none) (h0 : l = 0 → d = none) : Told l d r d r t t := by
  refine ⟨fun _ => ⟨rfl, rfl, rfl⟩, fun e => ⟨rfl, ?_⟩, fun e => ?_⟩
  · rw [h1 (by omega)]; rfl
  · rw [h1 (by omega), h0 e]; rfl
theorem lo_run {l : Nat} {t : Tm} {s : List Nat} (h : Lo l t s) : ∀ (o : List (Option Tm × Option Tm)) (d r p : Option Tm), (l ≤ 1 → r = none) → (l = 0 → d = none) → ∃ d' r' x, Run ⟨o, d, r, p⟩ (tk s []) ⟨o, d', r', some x⟩ ∧ Told l d r d' r' x t := by
  induction h with
  | num h =>
    intro o d r p h1 h0
    obtain ⟨a, b⟩ := leaf_signs h
    rw [tk_num _ [] a (by simpa using b)]
    exact ⟨d, r, _, ⟨_, .leaf (by simpa using h), rfl⟩, told_part h1 h0⟩
  | letter h =>
    intro o d r p h1 h0
    rw [tk_oth (by omega), if_pos rfl]
    exact ⟨d, r, _, ⟨_, .leaf (.letter h), rfl⟩, told_part h1 h0⟩
  | star h ih =>
    intro o d r p h1 h0
    obtain ⟨d', r', x, hr, ht⟩ := ih o d r p (by omega) (by omega)
    obtain ⟨rfl, rfl, rfl⟩ := ht.1 (Nat.le_refl _)
    rw [tk_split (by decide)]
    exact ⟨d', r', _, run_app hr ⟨_, .str, rfl⟩, told_part h1 h0⟩
  | row h k m ih ik =>
    intro o d r p h1 h0
    have r0 := h1 m
    subst r0
    obtain ⟨d1, r1, x1, hr, ht⟩ := ih o d none p (fun _ => rfl) (by omega)
    obtain ⟨rfl, e1⟩ := ht.2.1 rfl
    obtain ⟨d2, r2, x2, hr2, ht2⟩ := ik o d1 (some (two .row r1 x1)) (some x1) (by omega) (by omega)
    obtain ⟨rfl, rfl, rfl⟩ := ht2.1 (Nat.le_refl _)
    rw [tk_split (by decide)]
    refine ⟨d2, _, x2, run_app hr ⟨_, .dot, hr2⟩, fun z => absurd z (by omega), fun e => ⟨rfl, ?_⟩, fun e => ?_⟩
    · rw [e1]; rfl
    · rw [e1, h0 e]; rfl
  | plus h k ih ik =>
    intro o d r p h1 h0
    have r0 := h1 (by decide)
    have d0 := h0 rfl
    subst r0 d0
    obtain ⟨d1, r1, x1, hr, ht⟩ := ih o none none p (fun _ => rfl) (fun _ => rfl)
    have e1 := ht.2.2 rfl
    obtain ⟨d2, r2, x2, hr2, ht2⟩ := ik o (some (whole d1 r1 x1)) none (some x1) (fun _ => rfl) (by omega)
    obtain ⟨rfl, e2⟩ := ht2.2.1 rfl
    rw [tk_split (by decide)]
    refine ⟨_, r2, x2, run_app hr ⟨_, .pls, hr2⟩, fun z => absurd z (by omega), fun z => absurd z (by decide), fun e => ?_⟩
    show two .plus (some (whole d1 r1 x1)) (two .row r2 x2) = _
    rw [e1, e2]
    rfl
  | paren h ih =>
    intro o d r p h1 h0
    obtain ⟨d1, r1, x1, hr, ht⟩ := ih (o ++ [(d, r)]) none none p (fun _ => rfl) (fun _ => rfl)
    have e1 := ht.2.2 rfl
    rw [tk_oth (by decide), if_pos rfl, tk_split (by decide)]
    refine ⟨d, r, whole d1 r1 x1, ⟨_, .opn, run_app hr ⟨_, .cls, rfl⟩⟩, ?_⟩
    rw [e1]
    exact told_part h1 h0
/-- a text of the term builds the term -/
theorem lo_whole {t : Tm} {s : List Nat} (h : Lo 0 t s) : ∃ d r x, Run ⟨[], none, none, none⟩ (tk s []) ⟨[], d, r, some x⟩ ∧ whole d r x = t := by
  obtain ⟨d, r, x, hr, ht⟩ := lo_run h [] none none none (fun _ => rfl) (fun _ => rfl)
  exact ⟨d, r, x, hr, ht.2.2 rfl⟩
end RX

set_option Elab.async false
set_option maxRecDepth 100000
namespace RX
open PySem L2 AU NumText
open RQ (Bt Hg)
abbrev sLn : Stmt := topS 47
theorem scLn : FnScope ["feed", "one", "factor"] ["feed", "one"] (defScope sLn) := ⟨rfl, rfl, rfl, by decide +kernel, rfl, by decide +kernel, by decide +kernel⟩
theorem dint (i j : Int) : decide (V.int i = V.int j) = decide (i = j) := dintN i j
theorem cl_int (n : Int) : IntF (cl (toString n : Str)) n := by
  cases n with
  | ofNat m =>
    have e : cl (toString (Int.ofNat m) : Str) = TL.numL m := TL.tl_num m
    rw [e]
    exact .inl ⟨TL.numL_digits m, TL.numL_ne m, by rw [TL.numL_val]; rfl⟩
  | negSucc m =>
    have e : cl (toString (Int.negSucc m) : Str) = 45 :: TL.numL (m + 1) := by
      have h2 : cl (toString (Int.ofNat (m + 1)) : Str) = TL.numL (m + 1) := TL.tl_num (m + 1)
      rw [← h2]
      show (Str.ofString ("-" ++ Nat.repr (m + 1))).cps.toList = 45 :: (Str.ofString (Nat.repr (m + 1))).cps.toList
      rw [PySem.Str.ofString_eq_toList, PySem.Str.ofString_eq_toList, String.toList_append]
      simp
    rw [e]
    refine .inr ⟨TL.numL (m + 1), rfl, TL.numL_digits _, TL.numL_ne _, ?_⟩
    rw [TL.numL_val]
    rfl
theorem lenI {n : Int} {b : Nat} (h : Bt b n) (hb : b ≤ 1900) (h0 : 0 < b) : (toString n : Str).length ≤ b + 2 := by
  show (Str.ofString (toString n)).length ≤ b + 2
  rw [PySem.ofString_length]
  exact PySem.int_text_length_le (k := b + 1) (by omega) (Nat.lt_of_le_of_lt h.log (by omega))
theorem line_le' {n : Nat} (h : n ≤ 100000) : n ≤ sizeLine := line_le h
def spLn : Sp := fun vs H Q _ => ∃ (a cl' p : Addr) (q : Rat), vs = [.ref a, .ref p] ∧ FeedAt H a cl' ∧ PrQ H p q ∧ p ≠ a ∧ NumB q ∧ ∀ (s : Str) (H' : Hp), FeedAt H' a cl' → But a H H' → LeafOf (cl s) (.num q) → s.length ≤ 300 → Q (.str s) H'
theorem int_leaf {q : Rat} {n : Int} (h : (n : Rat) = q) : LeafOf (cl (toString n : Str)) (.num q) := by
  have e : q = (n : Rat) / ((1 : Int) : Rat) := by
    rw [← h]
    have k := Rat.div_mul_cancel (a := (n : Rat)) (b := ((1 : Int) : Rat)) (by decide)
    have h1 : ((1 : Int) : Rat) = 1 := rfl
    rw [h1, Rat.mul_one] at k
    rw [h1]
    exact k.symm
  rw [e]
  exact .int (cl_int n)
theorem frac_leaf {q : Rat} {n : Int} {m : Nat} (m0 : m ≠ 0) (h : (n : Rat) = q * ((m : Nat) : Rat)) : LeafOf (cl (((toString n : Str) ++ ("/" : Str)) ++ (toString ((m : Nat) : Int) : Str))) (.num q) := by
  have hm : (((m : Nat) : Int) : Rat) ≠ 0 := by
    intro z
    have : ((m : Nat) : Int) = 0 := by exact_mod_cast z
    omega
  have e : q = (n : Rat) / (((digitsVal (TL.numL m) : Nat) : Int) : Rat) := by
    rw [TL.numL_val, h]
    show q = q * (((m : Nat) : Int) : Rat) / (((m : Nat) : Int) : Rat)
    rw [Rat.mul_div_cancel hm]
  have e2 : cl (toString ((m : Nat) : Int) : Str) = TL.numL m := TL.tl_num m
  have e3 : cl (((toString n : Str) ++ ("/" : Str)) ++ (toString ((m : Nat) : Int) : Str)) = cl (toString n : Str) ++ 47 :: TL.numL m := by
    rw [cl_app, cl_app, List.append_assoc, e2]
    rfl
  rw [e3, e]
  exact .frac (cl_int n) (TL.numL_digits m) (TL.numL_ne m) (by rw [TL.numL_val]; exact m0)
section
variable {P : Program} {w : World} {K : PySem.W.Frag} {mg : Str → Option Value} {base : Heap}
theorem ok_ln {f fD : Addr} {fd dD : FuncData} (F : Fun K "_law_loose_number" "_law_loose_number" sLn f fd) (T : TxtL mg) (TPstr : mg "str" = none) (cDr : CalN P w K mg base "_law_draw" 1 ["feed", "limit"] spDraw fD dD) : FnOk P w K mg base CX0 2 f fd ["feed", "one"] spLn := by
  refine F.ok scLn (fun vs H Q E h => ?_) (fun cdv A outer s H vs Q E hr h => ?_)
  · obtain ⟨a, cl', p, q, rfl, _⟩ := h
    rfl
  · obtain ⟨a, cl', p, q, rfl, hF, hp, pa, ⟨bn, bd⟩, k⟩ := h
    have hr1 : Room 1 _ := hr
    refine ⟨_, pss_cons (ps_set (i := 2) scLn.nd rfl (.inl rfl) (pe_op op_add pe_int (pe_call cDr.G hr1 rfl cDr.m cDr.kp cDr.b .nil pass0 (pa_cons (pv 0) (pa_cons pe_int pa_nil)))))
      (C8.pss_cut (ps_if (PW.pt (pw_and (pt_cmpR op_eq (pe_op RQ.op_mulH (pe_ix ix_tup (pv 1) pe_int (fun _ _ => rfl)) (pv 2)) pe_int (nomark _)) (pw_and1 (pt_cmpR op_eq (pe_call cDr.G hr1 rfl cDr.m cDr.kp cDr.b .nil pass0 (pa_cons (pv 0) (pa_cons pe_int pa_nil))) pe_int (nomark _)))))
        (pss_one (ps_ret (pe_callTy call_str_int (by rfl) TPstr (by decide +kernel) (pa_cons (pe_ix ix_tup (pv 1) pe_int (fun _ _ => rfl)) pa_nil))))
        pss_nil)
      (pss_one (ps_ret (pe_op op_add_str (pe_op op_add_str (pe_callTy call_str_int (by rfl) TPstr (by decide +kernel) (pa_cons (pe_op RQ.op_mulH (pe_ix ix_tup (pv 1) pe_int (fun _ _ => rfl)) (pv 2)) pa_nil)) pe_str) (pe_callTy call_str_int (by rfl) TPstr (by decide +kernel) (pa_cons (pe_op RQ.op_mulH (pe_ix ix_tup (pv 1) pe_int (fun _ _ => rfl)) (pv 2)) pa_nil)))))), ?_⟩
    refine ⟨_, rfl, a, cl', 4, rfl, hF, by decide, by decide, fun d H1 d0 d1 f1 b1 => ⟨_, _, rfl, rfl, ?_⟩⟩
    obtain ⟨m, em, m1, m4⟩ : ∃ m : Nat, (1 : Int) + d = (m : Int) ∧ 1 ≤ m ∧ m ≤ 4 := ⟨(1 + d).toNat, by omega, by omega, by omega⟩
    show gName 2 (V.int (1 + d)) _ _ _
    rw [em]
    have hp1 := hp.but b1 pa
    have bm : Bt 3 (m : Int) := show ((m : Int)).natAbs < 2 ^ 3 by omega
    have hg : ∀ {x : Int}, Bt 140 x → Hg x := fun h => ⟨140, by decide, h⟩
    have hgm : Hg (m : Int) := ⟨3, by decide, bm⟩
    have lg : ∀ {x : Int}, Bt 143 x → x.natAbs.log2 < 1920 := fun h => Nat.lt_of_le_of_lt h.log (by decide)
    have bnm : Bt 143 (q.num * (m : Int)) := bn.mul bm
    have bdm : Bt 143 ((q.den : Int) * (m : Int)) := bd.mul bm
    refine ⟨fun σ' G => σ' = [some (.ref a), some (.ref p), some (.int (m : Int))] ∧ FeedAt G a cl' ∧ But a H G ∧ PrQ G p q, ?_, ?_⟩
    · refine ⟨_, rfl, p, _, 1, _, rfl, rfl, hp1.t, rfl, _, rfl, _, _, rfl, rfl, ⟨hg bd, hgm⟩, rfl, _, rfl, ?_⟩
      rw [dint]
      refine ite2 (fun c => ?_) (fun _ => iteF' rfl ⟨rfl, f1, b1, hp1⟩)
      have c := of_decide_eq_true c
      refine ⟨_, rfl, a, cl', 2, rfl, f1, by decide, by decide, fun e H2 _ _ f2 b2 => ⟨rfl, _, rfl, ?_⟩⟩
      have hp2 := hp1.but b2 pa
      refine ite2 (fun _ => ?_) (fun _ => ⟨rfl, f2, b1.trans b2, hp2⟩)
      have dq : q.den = 1 := by
        have : (q.den * m : Nat) = 1 := by
          have h2 : (((q.den * m : Nat)) : Int) = 1 := by rw [Int.natCast_mul]; exact c
          omega
        exact Nat.eq_one_of_mul_eq_one_right this
      refine ⟨_, rfl, p, _, 0, _, rfl, rfl, hp2.t, rfl, _, rfl, lg (bn.up (by decide)), ?_⟩
      refine k _ H2 f2 (b1.trans b2) (int_leaf ?_) (Nat.le_trans (lenI (b := 140) bn (by decide) (by decide)) (by decide))
      have := RQ.nd q
      rw [dq] at this
      rw [this]
      simp
    rintro σ' G ⟨rfl, f2, b2, hp2⟩
    refine ⟨_, rfl, p, _, 0, _, rfl, rfl, hp2.t, rfl, _, rfl, _, _, rfl, rfl, ⟨hg bn, hgm⟩, _, rfl, lg bnm, ?_⟩
    have l1 := lenI bnm (by decide) (by decide)
    have l2 := lenI bdm (by decide) (by decide)
    have q1 : ("/" : Str).length = 1 := rfl
    refine ⟨_, _, rfl, rfl, line_le (by omega), ?_⟩
    refine ⟨_, rfl, p, _, 1, _, rfl, rfl, hp2.t, rfl, _, rfl, _, _, rfl, rfl, ⟨hg bd, hgm⟩, _, rfl, lg bdm, _, _, rfl, rfl, line_le (by rw [str_len]; omega), ?_⟩
    have ed : (q.den : Int) * (m : Int) = ((q.den * m : Nat) : Int) := (Int.natCast_mul _ _).symm
    refine k _ G f2 b2 ?_ (by rw [str_len, str_len]; omega)
    rw [ed]
    refine frac_leaf (Nat.mul_ne_zero q.den_nz (by omega)) ?_
    rw [Rat.intCast_mul, RQ.nd q, Rat.natCast_mul]
    show q * ((q.den : Int) : Rat) * ((m : Int) : Rat) = q * (((q.den : Nat) : Rat) * ((m : Nat) : Rat))
    rw [Rat.mul_assoc]
    rfl
end
end RX

set_option Elab.async false
set_option maxRecDepth 100000
namespace RX
open PySem L2 AU NumText
open RQ (Bt Hg)
abbrev sLp : Stmt := topS 48
theorem scLp : FnScope ["feed", "term", "barred", "share", "found"] ["feed", "term", "barred", "share"] (defScope sLp) := ⟨rfl, rfl, rfl, by decide +kernel, rfl, by decide +kernel, by decide +kernel⟩
abbrev sLo : Stmt := topS 49
theorem scLo : FnScope ["feed", "term", "share"] ["feed", "term", "share"] (defScope sLo) := ⟨rfl, rfl, rfl, by decide +kernel, rfl, by decide +kernel, by decide +kernel⟩
def lv : Tm → Nat
  | .plus _ _ => 0
  | .row _ _ => 1
  | _ => 2
/-- a text without brackets around the whole -/
def Bare (t : Tm) (s : List Nat) : Prop := ∀ l, l ≤ lv t → Lo l t s
theorem Bare.zero {t : Tm} {s : List Nat} (h : Bare t s) : Lo 0 t s := h 0 (Nat.zero_le _)
theorem cl_paren (s : Str) : cl (("(" ++ s) ++ ")") = 40 :: (cl s ++ [41]) := by
  rw [cl_app, cl_app]
  rfl
/-- a text of a higher level is one of a lower level -/
theorem lo_down : ∀ {l : Nat} {t : Tm} {s : List Nat}, Lo l t s → Lo 0 t s
  | _, _, _, .num h => .num h
  | _, _, _, .letter h => .letter h
  | _, _, _, .star h => .star h
  | _, _, _, .row h k _ => .row h k (by decide)
  | _, _, _, .plus h k => .plus h k
  | _, _, _, .paren h => .paren h
def spLoo (C : Addr) (n : Nat) : Sp := fun vs H Q _ => ∃ (N : Addr → Prop) (a cl' p : Addr) (t : Tm) (sh : Int), vs = [.ref a, .ref p, .int sh] ∧ FeedAt H a cl' ∧ At C N H (.ref p) t.own ∧ Alc N H ∧ N a ∧ t.ok ∧ t.sz ≤ n ∧ t.sz ≤ 59 ∧ 2 ≤ sh ∧ sh ≤ 100 ∧
  ∀ (s : Str) (H' : Hp), FeedAt H' a cl' → But a H H' → Bare t (cl s) → s.length + 4 ≤ 400 * t.sz → Q (.str s) H'
def spLop (C : Addr) (n : Nat) : Sp := fun vs H Q _ => ∃ (N : Addr → Prop) (a cl' p b : Addr) (t : Tm) (sh : Int) (ys : List V) (l : Nat), vs = [.ref a, .ref p, .ref b, .int sh] ∧ FeedAt H a cl' ∧ At C N H (.ref p) t.own ∧ Alc N H ∧ N a ∧ t.ok ∧ t.sz ≤ n ∧ t.sz ≤ 59 ∧ 2 ≤ sh ∧ sh ≤ 100 ∧ H b = some (.lst ys) ∧ b ≠ a ∧ ys.all flatV = true ∧ (inV (.str t.kind) ys = false → l ≤ lv t) ∧
  ∀ (s : Str) (H' : Hp), FeedAt H' a cl' → But a H H' → Lo l t (cl s) → s.length ≤ 400 * t.sz → Q (.str s) H'
section
variable {P : Program} {w : World} {K : PySem.W.Frag} {mg : Str → Option Value} {base : Heap}
theorem ok_lp {C f fL fD : Addr} {fd dL dD : FuncData} {n : Nat} (F : Fun K "_law_loose_part" "_law_loose_part" sLp f fd) (cDr : CalN P w K mg base "_law_draw" 1 ["feed", "limit"] spDraw fD dD) (cLo : CalN P w K mg base "_law_loose" (2 * n + 4) ["feed", "term", "share"] (spLoo C n) fL dL) : FnOk P w K mg base CX0 (2 * n + 5) f fd ["feed", "term", "barred", "share"] (spLop C n) := by
  refine F.ok scLp (fun vs H Q E h => ?_) (fun cdv A outer s H vs Q E hr h => ?_)
  · obtain ⟨N, a, cl', p, b, t, sh, ys, l, rfl, _⟩ := h
    rfl
  · obtain ⟨N, a, cl', p, b, t, sh, ys, l, rfl, hF, hp, al, na, okt, hz, h59, h2, h100, hb, ba, hf, hl, k⟩ := h
    have hr1 : Room 1 _ := hr.mono (by omega)
    have hrL : Room (2 * n + 4) _ := hr.mono (by omega)
    refine ⟨_, pss_cons (ps_set (i := 4) scLp.nd rfl (.inl rfl) (pe_call cLo.G hrL rfl cLo.m cLo.kp cLo.b .nil pass0 (pa_cons (pv 0) (pa_cons (pv 1) (pa_cons (pv 3) pa_nil)))))
      (C8.pss_cut (ps_if (PW.pt (pw_or (pt_cmpR op_in_seq (pe_ix ix_tup (pv 1) pe_int (fun _ _ => rfl)) (pv 2) (by rfl)) (pw_or1 (pt_cmpR op_eq (pe_call cDr.G hr1 rfl cDr.m cDr.kp cDr.b .nil pass0 (pa_cons (pv 0) (pa_cons (pv 3) pa_nil))) pe_int (nomark _)))))
        (pss_one (ps_set (i := 4) scLp.nd rfl (.inl rfl) (pe_op op_add_str (pe_op op_add_str pe_str (pv 4)) pe_str)))
        pss_nil)
      (C8.pss_cut (ps_if (pt_cmpR op_eq (pe_call cDr.G hr1 rfl cDr.m cDr.kp cDr.b .nil pass0 (pa_cons (pv 0) (pa_cons (pe_op RQ.op_mulH pe_int (pv 3)) pa_nil))) pe_int (nomark _))
        (pss_one (ps_set (i := 4) scLp.nd rfl (.inl rfl) (pe_op op_add_str (pe_op op_add_str pe_str (pv 4)) pe_str)))
        pss_nil)
      (pss_one (ps_ret (pv 4))))), ?_⟩
    refine ⟨_, rfl, _, rfl, _, rfl, N, a, cl', p, t, sh, rfl, hF, hp, al, na, okt, hz, h59, h2, h100, fun z H1 f1 b1 bare lz => ?_⟩
    have hp1 := hp.keep (Keep.but b1 na f1.there)
    have hb1 := b1 _ _ hb ba
    obtain ⟨xs, hx, h0⟩ := own_head hp1
    have q1 : ("(" : Str).length = 1 := rfl
    have q2 : (")" : Str).length = 1 := rfl
    have wrap : ∀ {y : Str}, y.length ≤ 30000 → (("(" : Str)).length + y.length ≤ sizeLine ∧ (("(" : Str) ++ y).length + (")" : Str).length ≤ sizeLine := fun {y} h => ⟨line_le (by omega), line_le (by rw [str_len]; omega)⟩
    refine ⟨fun σ' G => ∃ y : Str, σ' = [some (.ref a), some (.ref p), some (.ref b), some (.int sh), some (.str y)] ∧ FeedAt G a cl' ∧ But a H G ∧ Lo l t (cl y) ∧ y.length + 2 ≤ 400 * t.sz, ?_, ?_⟩
    · have yes : ∀ {G : Hp}, FeedAt G a cl' → But a H G → ∃ y : Str, y = ("(" ++ z) ++ ")" ∧ FeedAt G a cl' ∧ But a H G ∧ Lo l t (cl y) ∧ y.length + 2 ≤ 400 * t.sz := fun f b' => ⟨_, rfl, f, b', by rw [cl_paren]; exact .paren bare.zero, by rw [str_len, str_len]; omega⟩
      refine ⟨_, rfl, p, _, 0, _, rfl, rfl, SqT.of hx, at0 h0, _, rfl, b, ys, rfl, .inl (SqL.of hb1), rfl, hf, _, rfl, ?_⟩
      show (if inV (.str t.kind) ys = true then _ else _)
      cases hi : inV (.str t.kind) ys with
      | true =>
        refine iteT' rfl (iteT' rfl ?_)
        obtain ⟨w1, w2⟩ := wrap (y := z) (by omega)
        refine ⟨_, rfl, _, _, rfl, rfl, w1, _, _, rfl, rfl, w2, ?_⟩
        obtain ⟨y, e, h3⟩ := yes f1 b1
        exact ⟨y, by rw [e]; rfl, h3⟩
      | false =>
        refine iteF' rfl ?_
        refine ⟨_, rfl, _, rfl, a, cl', sh, rfl, f1, by omega, by omega, fun d H2 _ _ f2 b2 => ⟨rfl, _, rfl, ite2 (fun _ => ?_) (fun _ => ?_)⟩⟩
        · obtain ⟨w1, w2⟩ := wrap (y := z) (by omega)
          refine ⟨_, rfl, _, _, rfl, rfl, w1, _, _, rfl, rfl, w2, ?_⟩
          obtain ⟨y, e, h3⟩ := yes f2 (b1.trans b2)
          exact ⟨y, by rw [e]; rfl, h3⟩
        · exact ⟨z, rfl, f2, b1.trans b2, bare l (hl hi), by omega⟩
    rintro σ' G ⟨y, rfl, f2, b2, ly, zy⟩
    have bsh : Bt 7 sh := show sh.natAbs < 2 ^ 7 by omega
    refine ⟨fun σ' G => ∃ y : Str, σ' = [some (.ref a), some (.ref p), some (.ref b), some (.int sh), some (.str y)] ∧ FeedAt G a cl' ∧ But a H G ∧ Lo l t (cl y) ∧ y.length ≤ 400 * t.sz, ?_, ?_⟩
    · refine ⟨_, rfl, _, rfl, _, _, rfl, rfl, ⟨⟨2, by decide, show (2 : Int).natAbs < 2 ^ 2 by decide⟩, ⟨7, by decide, bsh⟩⟩, a, cl', _, rfl, f2, by omega, by omega, fun d H2 _ _ f3 b3 => ⟨rfl, _, rfl, ite2 (fun _ => ?_) (fun _ => ⟨y, rfl, f3, b2.trans b3, ly, by omega⟩)⟩⟩
      obtain ⟨w1, w2⟩ := wrap (y := y) (by omega)
      refine ⟨_, rfl, _, _, rfl, rfl, w1, _, _, rfl, rfl, w2, ?_⟩
      refine ⟨("(" ++ y) ++ ")", rfl, f3, b2.trans b3, ?_, by rw [str_len, str_len]; omega⟩
      rw [cl_paren]
      exact .paren (lo_down ly)
    rintro σ' G ⟨y, rfl, f3, b3, ly, zy⟩
    exact ⟨_, rfl, k y G f3 b3 ly zy⟩
end
end RX

set_option Elab.async false
set_option maxRecDepth 100000
namespace RX
open PySem L2 AU NumText
open RQ (Bt Hg)
section
variable {P : Program} {w : World} {K : PySem.W.Frag} {mg : Str → Option Value} {base : Heap}
theorem ok_lo {C f fP fN fD : Addr} {fd dP dN dD : FuncData} (F : Fun K "_law_loose" "_law_loose" sLo f fd) (FP : Fun K "_law_loose_part" "_law_loose_part" sLp fP dP) (cDr : CalN P w K mg base "_law_draw" 1 ["feed", "limit"] spDraw fD dD) (cLn : CalN P w K mg base "_law_loose_number" 2 ["feed", "one"] spLn fN dN)
    (m : mg "_law_loose" = some (.ref f)) (kp : PySem.W.keepIn K (.ref f) = true) (b : Binds K fd ["feed", "term", "share"] []) (mP : mg "_law_loose_part" = some (.ref fP)) (kpP : PySem.W.keepIn K (.ref fP) = true) (bP : Binds K dP ["feed", "term", "barred", "share"] []) : ∀ n : Nat, FnOk P w K mg base CX0 (2 * n + 4) f fd ["feed", "term", "share"] (spLoo C n)
  | 0 => by
    refine F.ok scLo (fun vs H Q E h => ?_) (fun cdv A outer s H vs Q E hr h => ?_)
    · obtain ⟨N, a, cl', p, t, sh, rfl, _⟩ := h
      rfl
    · obtain ⟨N, a, cl', p, t, sh, rfl, _, _, _, _, _, hz, _⟩ := h
      have := t.sz_pos
      omega
  | n + 1 => by
    have cLo : CalN P w K mg base "_law_loose" (2 * n + 4) ["feed", "term", "share"] (spLoo C n) f fd := ⟨ok_lo F FP cDr cLn m kp b mP kpP bP n, m, kp, b⟩
    have cLp : CalN P w K mg base "_law_loose_part" (2 * n + 5) ["feed", "term", "barred", "share"] (spLop C n) fP dP := ⟨ok_lp FP cDr cLo, mP, kpP, bP⟩
    refine F.ok scLo (fun vs H Q E h => ?_) (fun cdv A outer s H vs Q E hr h => ?_)
    · obtain ⟨N, a, cl', p, t, sh, rfl, _⟩ := h
      rfl
    · obtain ⟨N, a, cl', p, t, sh, rfl, hF, hp, al, na, okt, hz, h59, h2, h100, k⟩ := h
      have hr2 : Room 2 _ := hr.mono (by omega)
      have hrP : Room (2 * n + 5) _ := hr.mono (by omega)
      refine ⟨_, pss_cons (ps_if (pt_cmpR op_eq (pe_ix ix_tup (pv 1) pe_int (fun _ _ => rfl)) pe_str (nomark _))
        (pss_one (ps_ret (pe_call cLn.G hr2 rfl cLn.m cLn.kp cLn.b .nil pass0 (pa_cons (pv 0) (pa_cons (pe_ix ix_tup (pv 1) pe_int (fun _ _ => rfl)) pa_nil)))))
        pss_nil)
      (pss_cons (ps_if (pt_cmpR op_eq (pe_ix ix_tup (pv 1) pe_int (fun _ _ => rfl)) pe_str (nomark _))
        (pss_one (ps_ret (pe_ix ix_tup (pv 1) pe_int (fun _ _ => rfl))))
        pss_nil)
      (pss_cons (ps_if (pt_cmpR op_eq (pe_ix ix_tup (pv 1) pe_int (fun _ _ => rfl)) pe_str (nomark _))
        (pss_one (ps_ret (pe_op op_add_str (pe_call cLp.G hrP rfl cLp.m cLp.kp cLp.b .nil pass0 (pa_cons (pv 0) (pa_cons (pe_ix ix_tup (pv 1) pe_int (fun _ _ => rfl)) (pa_cons (pe_lst (pa_cons pe_str (pa_cons pe_str pa_nil))) (pa_cons (pv 2) pa_nil))))) pe_str)))
        pss_nil)
      (pss_cons (ps_if (pt_cmpR op_eq (pe_ix ix_tup (pv 1) pe_int (fun _ _ => rfl)) pe_str (nomark _))
        (pss_one (ps_ret (pe_op op_add_str (pe_op op_add_str (pe_call cLp.G hrP rfl cLp.m cLp.kp cLp.b .nil pass0 (pa_cons (pv 0) (pa_cons (pe_ix ix_tup (pv 1) pe_int (fun _ _ => rfl)) (pa_cons (pe_lst pa_nil) (pa_cons (pv 2) pa_nil))))) pe_str) (pe_call cLp.G hrP rfl cLp.m cLp.kp cLp.b .nil pass0 (pa_cons (pv 0) (pa_cons (pe_ix ix_tup (pv 1) pe_int (fun _ _ => rfl)) (pa_cons (pe_lst (pa_cons pe_str pa_nil)) (pa_cons (pv 2) pa_nil))))))))
        pss_nil)
      (pss_one (ps_ret (pe_op op_add_str (pe_op op_add_str (pe_call cLp.G hrP rfl cLp.m cLp.kp cLp.b .nil pass0 (pa_cons (pv 0) (pa_cons (pe_ix ix_tup (pv 1) pe_int (fun _ _ => rfl)) (pa_cons (pe_lst (pa_cons pe_str pa_nil)) (pa_cons (pv 2) pa_nil))))) pe_str) (pe_call cLp.G hrP rfl cLp.m cLp.kp cLp.b .nil pass0 (pa_cons (pv 0) (pa_cons (pe_ix ix_tup (pv 1) pe_int (fun _ _ => rfl)) (pa_cons (pe_lst (pa_cons pe_str (pa_cons pe_str pa_nil))) (pa_cons (pv 2) pa_nil))))))))))), ?_⟩
      have q1 : ("+" : Str).length = 1 := rfl
      have q2 : ("." : Str).length = 1 := rfl
      have q3 : ("*" : Str).length = 1 := rfl
      cases t with
      | num q =>
        obtain ⟨_, x, e, hp', hx, nN⟩ := at_one hp
        cases e
        obtain ⟨x, rfl, hx, nx⟩ := hx.pair
        refine ⟨_, rfl, p, _, 0, _, rfl, rfl, SqT.of hp', rfl, rfl, _, rfl, iteT' (seqT rfl) ?_⟩
        refine ⟨_, rfl, _, rfl, p, _, 1, _, rfl, rfl, SqT.of hp', rfl, a, cl', x, q, rfl, hF, hx, (fun e => nx (by rw [e]; exact na)), okt, fun z H1 f1 b1 hl lz => k z H1 f1 b1 (fun l _ => .num hl) (by show z.length + 4 ≤ 400 * 1; omega)⟩
      | letter c =>
        obtain ⟨_, x, e, hp', hx, nN⟩ := at_one hp
        cases e
        have := hx.strV
        subst this
        refine ⟨_, rfl, p, _, 0, _, rfl, rfl, SqT.of hp', rfl, rfl, _, rfl, iteF' (seqF (by decide +kernel : ¬ ("letter" : Str) = "number")) ?_⟩
        refine ⟨_, rfl, p, _, 0, _, rfl, rfl, SqT.of hp', rfl, rfl, _, rfl, iteT' (seqT rfl) ?_⟩
        obtain ⟨n', c1, c2, rfl⟩ := okt
        exact ⟨_, rfl, p, _, 1, _, rfl, rfl, SqT.of hp', rfl, k _ H hF (But.refl a H) (fun l _ => .letter ⟨c1, c2⟩) (by show 1 + 4 ≤ 400 * 1; decide)⟩
      | star t =>
        obtain ⟨_, x, e, hp', hx, nN⟩ := at_one hp
        cases e
        obtain ⟨x, rfl⟩ := own_ref hx
        have hz : t.sz + 1 ≤ n + 1 := hz
        have h59 : t.sz + 1 ≤ 59 := h59
        have okt : t.ok := okt
        refine ⟨_, rfl, p, _, 0, _, rfl, rfl, SqT.of hp', rfl, rfl, _, rfl, iteF' (seqF (by decide +kernel : ¬ ("star" : Str) = "number")) ?_⟩
        refine ⟨_, rfl, p, _, 0, _, rfl, rfl, SqT.of hp', rfl, rfl, _, rfl, iteF' (seqF (by decide +kernel : ¬ ("star" : Str) = "letter")) ?_⟩
        refine ⟨_, rfl, p, _, 0, _, rfl, rfl, SqT.of hp', rfl, rfl, _, rfl, iteT' (seqT rfl) ?_⟩
        refine ⟨_, rfl, _, rfl, p, _, 1, _, rfl, rfl, SqT.of hp', rfl, (by show 2 ≤ sizeLine; decide), fun l nl => ⟨_, rfl, ?_⟩⟩
        have s1 := Same.upd (o := .lst [.str "plus", .str "row"]) nl
        refine ⟨N, a, cl', x, l, t, sh, _, 2, rfl, hF.same s1, hx.same s1, al.keep (Same.keep (N := N) s1), na, okt, by omega, by omega, h2, h100, upd_same, (hF.ne_new nl).1, rfl, fun e => ?_, fun z H2 f2 b2 hl lz => ?_⟩
        · rw [inPR] at e
          cases t <;> first | exact Nat.le_refl _ | cases e
        · refine ⟨_, _, rfl, rfl, line_le (by omega), k _ H2 f2 ((Same.but s1).trans b2) (fun l _ => ?_) (by rw [str_len]; show _ ≤ 400 * (t.sz + 1); omega)⟩
          rw [cl_app]
          exact .star hl
      | plus t u =>
        obtain ⟨_, x, y, e, hp', hx, hy, nN⟩ := at_two hp
        cases e
        obtain ⟨x, rfl⟩ := own_ref hx
        obtain ⟨y, rfl⟩ := own_ref hy
        have hz : t.sz + u.sz + 1 ≤ n + 1 := hz
        have h59 : t.sz + u.sz + 1 ≤ 59 := h59
        refine ⟨_, rfl, p, _, 0, _, rfl, rfl, SqT.of hp', rfl, rfl, _, rfl, iteF' (seqF (by decide +kernel : ¬ ("plus" : Str) = "number")) ?_⟩
        refine ⟨_, rfl, p, _, 0, _, rfl, rfl, SqT.of hp', rfl, rfl, _, rfl, iteF' (seqF (by decide +kernel : ¬ ("plus" : Str) = "letter")) ?_⟩
        refine ⟨_, rfl, p, _, 0, _, rfl, rfl, SqT.of hp', rfl, rfl, _, rfl, iteF' (seqF (by decide +kernel : ¬ ("plus" : Str) = "star")) ?_⟩
        refine ⟨_, rfl, p, _, 0, _, rfl, rfl, SqT.of hp', rfl, rfl, _, rfl, iteT' (seqT rfl) ?_⟩
        refine ⟨_, rfl, _, rfl, p, _, 1, _, rfl, rfl, SqT.of hp', rfl, (by show 0 ≤ sizeLine; decide), fun l nl => ⟨_, rfl, ?_⟩⟩
        have s1 := Same.upd (o := .lst []) nl
        refine ⟨N, a, cl', x, l, t, sh, _, 0, rfl, hF.same s1, hx.same s1, al.keep (Same.keep (N := N) s1), na, okt.1, by omega, by omega, h2, h100, upd_same, (hF.ne_new nl).1, rfl, fun _ => Nat.zero_le _, fun z H2 f2 b2 hl lz => ?_⟩
        have b02 := (Same.but s1).trans b2
        have k2 : Keep N H H2 := Keep.but b02 na f2.there
        have hp2 := k2.k _ _ hp' nN
        refine ⟨_, _, rfl, rfl, line_le (by omega), ?_⟩
        refine ⟨_, rfl, _, rfl, p, _, 2, _, rfl, rfl, SqT.of hp2, rfl, (by show 1 ≤ sizeLine; decide), fun l2 nl2 => ⟨_, rfl, ?_⟩⟩
        have s3 := Same.upd (o := .lst [.str "plus"]) nl2
        refine ⟨N, a, cl', y, l2, u, sh, _, 1, rfl, f2.same s3, (hy.keep k2).same s3, (al.keep k2).keep (Same.keep (N := N) s3), na, okt.2, by omega, by omega, h2, h100, upd_same, (f2.ne_new nl2).1, rfl, fun e => ?_, fun z2 H4 f4 b4 hl2 lz2 => ?_⟩
        · rw [inP] at e
          cases u <;> first | (show 1 ≤ 2; decide) | (show 1 ≤ 1; decide) | cases e
        · refine ⟨_, _, rfl, rfl, line_le (by rw [str_len]; omega), k _ H4 f4 (b02.trans ((Same.but s3).trans b4)) (fun l' hl' => ?_) (by rw [str_len, str_len]; show _ ≤ 400 * (t.sz + u.sz + 1); omega)⟩
          have : l' = 0 := Nat.le_zero.mp hl'
          subst this
          rw [cl_app, cl_app, List.append_assoc]
          exact .plus hl hl2
      | row t u =>
        obtain ⟨_, x, y, e, hp', hx, hy, nN⟩ := at_two hp
        cases e
        obtain ⟨x, rfl⟩ := own_ref hx
        obtain ⟨y, rfl⟩ := own_ref hy
        have hz : t.sz + u.sz + 1 ≤ n + 1 := hz
        have h59 : t.sz + u.sz + 1 ≤ 59 := h59
        refine ⟨_, rfl, p, _, 0, _, rfl, rfl, SqT.of hp', rfl, rfl, _, rfl, iteF' (seqF (by decide +kernel : ¬ ("row" : Str) = "number")) ?_⟩
        refine ⟨_, rfl, p, _, 0, _, rfl, rfl, SqT.of hp', rfl, rfl, _, rfl, iteF' (seqF (by decide +kernel : ¬ ("row" : Str) = "letter")) ?_⟩
        refine ⟨_, rfl, p, _, 0, _, rfl, rfl, SqT.of hp', rfl, rfl, _, rfl, iteF' (seqF (by decide +kernel : ¬ ("row" : Str) = "star")) ?_⟩
        refine ⟨_, rfl, p, _, 0, _, rfl, rfl, SqT.of hp', rfl, rfl, _, rfl, iteF' (seqF (by decide +kernel : ¬ ("row" : Str) = "plus")) ?_⟩
        refine ⟨_, rfl, _, rfl, p, _, 1, _, rfl, rfl, SqT.of hp', rfl, (by show 1 ≤ sizeLine; decide), fun l nl => ⟨_, rfl, ?_⟩⟩
        have s1 := Same.upd (o := .lst [.str "plus"]) nl
        refine ⟨N, a, cl', x, l, t, sh, _, 1, rfl, hF.same s1, hx.same s1, al.keep (Same.keep (N := N) s1), na, okt.1, by omega, by omega, h2, h100, upd_same, (hF.ne_new nl).1, rfl, fun e => ?_, fun z H2 f2 b2 hl lz => ?_⟩
        · rw [inP] at e
          cases t <;> first | (show 1 ≤ 2; decide) | (show 1 ≤ 1; decide) | cases e
        have b02 := (Same.but s1).trans b2
        have k2 : Keep N H H2 := Keep.but b02 na f2.there
        have hp2 := k2.k _ _ hp' nN
        refine ⟨_, _, rfl, rfl, line_le (by omega), ?_⟩
        refine ⟨_, rfl, _, rfl, p, _, 2, _, rfl, rfl, SqT.of hp2, rfl, (by show 2 ≤ sizeLine; decide), fun l2 nl2 => ⟨_, rfl, ?_⟩⟩
        have s3 := Same.upd (o := .lst [.str "plus", .str "row"]) nl2
        refine ⟨N, a, cl', y, l2, u, sh, _, 2, rfl, f2.same s3, (hy.keep k2).same s3, (al.keep k2).keep (Same.keep (N := N) s3), na, okt.2, by omega, by omega, h2, h100, upd_same, (f2.ne_new nl2).1, rfl, fun e => ?_, fun z2 H4 f4 b4 hl2 lz2 => ?_⟩
        · rw [inPR] at e
          cases u <;> first | exact Nat.le_refl _ | cases e
        · refine ⟨_, _, rfl, rfl, line_le (by rw [str_len]; omega), k _ H4 f4 (b02.trans ((Same.but s3).trans b4)) (fun l' hl' => ?_) (by rw [str_len, str_len]; show _ ≤ 400 * (t.sz + u.sz + 1); omega)⟩
          rw [cl_app, cl_app, List.append_assoc]
          exact .row hl hl2 hl'
end
end RX

set_option Elab.async false
set_option maxRecDepth 100000
namespace RX
open PySem L2 AU NumText
open RQ (Bt Hg)
abbrev sLg : Stmt := topS 50
theorem scLg : FnScope ["feed", "most", "below", "value", "said", "turn", "digit"] ["feed", "most", "below"] (defScope sLg) := ⟨rfl, rfl, rfl, by decide +kernel, rfl, by decide +kernel, by decide +kernel⟩
def ptD (t : Tm) (s : Str) : Dat := .lst [t.own, .str s]
def spLg (C : Addr) : Sp := fun vs H Q _ => ∃ (N : Addr → Prop) (a cl' : Addr) (most : Int) (b : Bool), vs = [.ref a, .int most, .bl b] ∧ FeedAt H a cl' ∧ 4 ≤ most ∧ most ≤ 1000 ∧ Alc N H ∧ N a ∧
  ∀ (r : Addr) (t : Tm) (s : Str) (H' : Hp), FeedAt H' a cl' → But a H H' → At C N H' (.ref r) (ptD t s) → Lo 0 t (cl s) → s.length ≤ 2000 → t.sz ≤ 480 → Q (.ref r) H'
section
variable {P : Program} {w : World} {K : PySem.W.Frag} {mg : Str → Option Value} {base : Heap}
theorem ok_lg {C f fD : Addr} {fd dD : FuncData} (F : Fun K "_law_long_number" "_law_long_number" sLg f fd) (T : TxtL mg) (TPstr : mg "str" = none) (cDr : CalN P w K mg base "_law_draw" 1 ["feed", "limit"] spDraw fD dD) : FnOk P w K mg base CX0 2 f fd ["feed", "most", "below"] (spLg C) := by
  refine F.ok scLg (fun vs H Q E h => ?_) (fun cdv A outer s H vs Q E hr h => ?_)
  · obtain ⟨N, a, cl', most, b, rfl, _⟩ := h
    rfl
  · obtain ⟨N, a, cl', most, b, rfl, hF, m4, m1000, al, na, k⟩ := h
    have hr1 : Room 1 _ := hr
    refine ⟨_, pss_cons (ps_set (i := 3) scLg.nd rfl (.inl rfl) (pe_op op_add pe_int (pe_call cDr.G hr1 rfl cDr.m cDr.kp cDr.b .nil pass0 (pa_cons (pv 0) (pa_cons pe_int pa_nil)))))
      (pss_cons (ps_set (i := 4) scLg.nd rfl (.inl rfl) (pe_callTy call_str_int (by rfl) TPstr (by decide +kernel) (pa_cons (pv 3) pa_nil)))
      (pss_cons (ps_for PassesOwn.never rfl (pi_range1 (by rfl) T.range (pa_cons (pe_call cDr.G hr1 rfl cDr.m cDr.kp cDr.b .nil pass0 (pa_cons (pv 0) (pa_cons (pe_op op_sub (pv 1) pe_int) pa_nil))) pa_nil)) (pg_name (i := 5) scLg.nd rfl (.inl rfl))
        (pss_cons (ps_set (i := 6) scLg.nd rfl (.inl rfl) (pe_op op_mod (pe_callTy call_int1 (by rfl) T.int (by decide +kernel) (pa_cons (pe_op op_add (pv 3) (pe_op RQ.op_mulH pe_int (pv 5))) pa_nil)) pe_int))
        (pss_cons (ps_set (i := 3) scLg.nd rfl (.inl rfl) (pe_op op_add (pe_op RQ.op_mulH pe_int (pv 3)) (pv 6)))
        (pss_one (ps_set (i := 4) scLg.nd rfl (.inl rfl) (pe_op op_add_str (pv 4) (pe_callTy call_str_int (by rfl) TPstr (by decide +kernel) (pa_cons (pv 6) pa_nil))))))))
      (pss_cons (ps_if (pt_val (pv 2))
        (pss_one (ps_ret (pe_lst (pa_cons (pe_tup (pa_cons pe_str (pa_cons (pe_tup (pa_cons pe_int (pa_cons (pv 3) pa_nil))) pa_nil))) (pa_cons (pe_op op_add_str pe_str (pv 4)) pa_nil)))))
        pss_nil)
      (pss_one (ps_ret (pe_lst (pa_cons (pe_tup (pa_cons pe_str (pa_cons (pe_tup (pa_cons (pv 3) (pa_cons pe_int pa_nil))) pa_nil))) (pa_cons (pv 4) pa_nil)))))))), ?_⟩
    have tx : ∀ {v : Nat}, v < 10 → cl (toString (v : Int) : Str) = [48 + v] := fun {v} h => (TL.tl_num v).trans (TL.numL_lt h)
    refine ⟨_, rfl, a, cl', 9, rfl, hF, by decide, by decide, fun d H1 d0 d1 f1 b1 => ⟨_, _, rfl, rfl, ?_⟩⟩
    obtain ⟨v, ev, v1, v9⟩ : ∃ v : Nat, (1 : Int) + d = (v : Int) ∧ 1 ≤ v ∧ v ≤ 9 := ⟨(1 + d).toNat, by omega, by omega, by omega⟩
    show gName 3 (V.int (1 + d)) _ _ _
    rw [ev]
    have lgs : ∀ {x : Nat}, x < 10 → ((x : Int)).natAbs.log2 < 1920 := fun {x} h => Nat.lt_of_le_of_lt (Nat.log2_le_self _) (by omega)
    refine ⟨_, rfl, _, rfl, lgs (by omega), ?_⟩
    refine ⟨_, rfl, _, rfl, _, _, rfl, rfl, a, cl', _, rfl, f1, by omega, by omega, fun n H2 n0 n1 f2 b2 => ⟨n, rfl, by omega, by omega, for_range (n := n.toNat) (fun i σ G => ∃ (z : Str) (o5 o6 : Option V), σ = [some (.ref a), some (.int most), some (.bl b), some (.int ((digitsVal (cl z) : Nat) : Int)), some (.str z), o5, o6] ∧ G = H2 ∧ AllDigits (cl z) ∧ (cl z).length = i + 1 ∧ 1 ≤ digitsVal (cl z))
      ⟨(toString (v : Int) : Str), none, none, ?_, rfl, ?_, ?_, ?_⟩ ?_ ?_⟩⟩
    · rw [tx (by omega)]
      show _ = [_, _, _, some (V.int (((0 * 10 + (48 + v - 48) : Nat)) : Int)), _, _, _]
      rw [show 0 * 10 + (48 + v - 48) = v by omega]
      rfl
    · rw [tx (by omega)]; exact ad_one (by omega)
    · rw [tx (by omega)]; rfl
    · rw [tx (by omega)]
      show 1 ≤ 0 * 10 + (48 + v - 48)
      omega
    · rintro i σ G hi ⟨z, o5, o6, rfl, rfl, az, lz, pz⟩
      have hi : i < 1000 := by omega
      generalize hv : digitsVal (cl z) = w' at *
      have bw : Bt 4100 (w' : Int) := by
        show w' < 2 ^ 4100
        have h1 := dv_lt (cl z) az
        rw [hv] at h1
        have h2 : (10 : Nat) ^ (cl z).length ≤ 16 ^ 1001 := Nat.le_trans (Nat.pow_le_pow_right (by decide) (by omega)) (Nat.pow_le_pow_left (by decide) _)
        have h3 : (16 : Nat) ^ 1001 ≤ 2 ^ 4100 := by
          rw [show (16 : Nat) = 2 ^ 4 from rfl, ← Nat.pow_mul]
          exact Nat.pow_le_pow_right (by decide) (by decide)
        omega
      refine ⟨_, rfl, _, rfl, _, _, rfl, rfl, ⟨⟨2, by decide, show (3 : Int).natAbs < 2 ^ 2 by decide⟩, ⟨10, by decide, show (0 + (i : Int)).natAbs < 2 ^ 10 by omega⟩⟩, _, _, rfl, rfl, .inl ⟨_, rfl, _, _, rfl, rfl, (by show (0 : Int) < 10; decide), ?_⟩⟩
      obtain ⟨g, eg, g9⟩ : ∃ g : Nat, ((w' : Int) + 3 * (0 + (i : Int))) % 10 = (g : Int) ∧ g < 10 := ⟨(((w' : Int) + 3 * (0 + (i : Int))) % 10).toNat, by omega, by omega⟩
      show gName 6 (V.int (((w' : Int) + 3 * (0 + (i : Int))) % 10)) _ _ _
      rw [eg]
      refine ⟨_, rfl, _, _, rfl, rfl, ⟨⟨4, by decide, show (10 : Int).natAbs < 2 ^ 4 by decide⟩, ⟨4100, by decide, bw⟩⟩, _, rfl, _, _, rfl, rfl, ?_⟩
      refine ⟨_, rfl, _, rfl, _, rfl, lgs g9, _, _, rfl, rfl, line_le ?_, ?_⟩
      · have : (toString (g : Int) : Str).length = 1 := by rw [← cl_len, tx g9]; rfl
        have : z.length = i + 1 := lz
        omega
      have e1 : cl (z ++ (toString (g : Int) : Str)) = cl z ++ [48 + g] := by rw [cl_app, tx g9]
      have e2 : digitsVal (cl (z ++ (toString (g : Int) : Str))) = w' * 10 + g := by
        rw [e1, dv_app, hv]
        omega
      refine ⟨z ++ (toString (g : Int) : Str), some (.int (0 + (i : Int))), some (.int (g : Int)), ?_, rfl, ?_, ?_, ?_⟩
      · rw [e2]
        show [_, _, _, some (V.int (10 * (w' : Int) + (g : Int))), _, _, _] = _
        rw [show (((w' * 10 + g : Nat)) : Int) = 10 * (w' : Int) + (g : Int) by omega]
      · rw [e1]; exact ad_app az (by omega)
      · rw [e1, List.length_append, lz]; rfl
      · rw [e2]; omega
    · rintro σ G ⟨z, o5, o6, rfl, rfl, az, lz, pz⟩
      have b12 := b1.trans b2
      have al2 : Alc N G := al.keep (Keep.but b12 na f2.there)
      have ne : cl z ≠ [] := fun e => by rw [e] at lz; cases lz
      have lz' : z.length ≤ 1001 := by have : z.length = n.toNat + 1 := lz; omega
      have q1 : ("1/" : Str).length = 2 := rfl
      have give : ∀ (n d : Int) (y : Str), 0 < d → Nat.Coprime n.natAbs d.natAbs → y.length ≤ 1003 → (∀ q : Rat, q.num = n → (q.den : Int) = d → LeafOf (cl y) (.num q)) → ∀ r1, G r1 = none → ∀ r2, (upd G r1 (.tup [.int n, .int d])) r2 = none → ∀ r3, (upd (upd G r1 (.tup [.int n, .int d])) r2 (.tup [.str "number", .ref r1])) r3 = none →
          Q (.ref r3) (upd (upd (upd G r1 (.tup [.int n, .int d])) r2 (.tup [.str "number", .ref r1])) r3 (.lst [.ref r2, .str y])) := fun n d y hd c ly hl r1 n1 r2 n2 r3 n3 => by
        obtain ⟨q, rfl, rfl⟩ := pr_of hd c
        have s1 := Same.upd (o := .tup [.int q.num, .int (q.den : Int)]) n1
        have s2 := Same.upd (o := .tup [.str "number", .ref r1]) n2
        have s3 := Same.upd (o := .lst [.ref r2, .str y]) n3
        have s := s1.trans (s2.trans s3)
        have al3 := al2.keep (Same.keep (N := N) s1)
        have hp := at_pair (C := C) (show PairAt (upd G r1 (.tup [.int q.num, .int (q.den : Int)])) r1 q.num (q.den : Int) from upd_same) (al2.fresh n1)
        exact k r3 (.num q) y _ (f2.same s) (b12.trans (Same.but s)) (At.newL (al3.keep (Same.keep (N := N) s2)) n3 rfl (itemsC (mk_one al3 n2 hp) (items1 (.str _)))) (.num (hl q rfl rfl)) (by omega) (by show 1 ≤ 480; decide)
      cases b with
      | true =>
        refine ⟨_, rfl, _, rfl, iteT' rfl ?_⟩
        refine ⟨_, rfl, (by show 2 ≤ sizeLine; decide), fun r1 n1 => ⟨(by show 2 ≤ sizeLine; decide), fun r2 n2 => ?_⟩⟩
        refine ⟨_, rfl, _, _, rfl, rfl, line_le (by omega), (by show 2 ≤ sizeLine; decide), fun r3 n3 => ?_⟩
        refine give 1 _ ("1/" ++ z) (by omega) (Nat.coprime_one_left _) (by rw [str_len]; omega) (fun q e1 e2 => ?_) r1 n1 r2 n2 r3 n3
        have hm : (((digitsVal (cl z) : Nat) : Int) : Rat) ≠ 0 := by
          intro h
          have : ((digitsVal (cl z) : Nat) : Int) = 0 := by exact_mod_cast h
          omega
        have e : q = ((1 : Int) : Rat) / (((digitsVal (cl z) : Nat) : Int) : Rat) := by
          have h := RQ.nd q
          rw [e1, e2] at h
          rw [h, Rat.mul_div_cancel hm]
        rw [e, cl_app]
        exact .frac (T := [49]) (.inl ⟨show AllDigits [48 + 1] from ad_one (by omega), by decide, rfl⟩) az ne (Nat.ne_of_gt pz)
      | false =>
        refine ⟨_, rfl, _, rfl, iteF' rfl ?_⟩
        refine ⟨_, rfl, (by show 2 ≤ sizeLine; decide), fun r1 n1 => ⟨(by show 2 ≤ sizeLine; decide), fun r2 n2 => ⟨_, rfl, (by show 2 ≤ sizeLine; decide), fun r3 n3 => ?_⟩⟩⟩
        refine give _ 1 z (by decide) (Nat.coprime_one_right _) (by omega) (fun q e1 e2 => ?_) r1 n1 r2 n2 r3 n3
        have e : q = ((((digitsVal (cl z) : Nat) : Int)) : Rat) / ((1 : Int) : Rat) := by
          have h := RQ.nd q
          rw [e1, e2] at h
          rw [h, Rat.mul_div_cancel (by decide)]
        rw [e]
        exact .int (.inl ⟨az, ne, rfl⟩)
end
end RX

set_option Elab.async false
set_option maxRecDepth 100000
namespace RX
open PySem L2 AU NumText
open RQ (Bt Hg)
abbrev sLl : Stmt := topS 51
theorem scLl : FnScope ["feed", "most", "kind", "found", "said", "count", "turn"] ["feed", "most"] (defScope sLl) := ⟨rfl, rfl, rfl, by decide +kernel, rfl, by decide +kernel, by decide +kernel⟩
def spLl (C : Addr) : Sp := fun vs H Q _ => ∃ (N : Addr → Prop) (a cl' : Addr), vs = [.ref a, .int 471] ∧ FeedAt H a cl' ∧ Alc N H ∧ N a ∧
  ∀ (r : Addr) (t : Tm) (s : Str) (H' : Hp), FeedAt H' a cl' → But a H H' → At C N H' (.ref r) (ptD t s) → Lo 0 t (cl s) → s.length ≤ 2000 → t.sz ≤ 480 → Q (.ref r) H'
def lvK (k : Int) : Nat := if k = 0 then 2 else if k = 1 then 1 else 0
section
variable {P : Program} {w : World} {K : PySem.W.Frag} {mg : Str → Option Value} {base : Heap}
theorem ok_ll {C f fD fG : Addr} {fd dD dG : FuncData} (F : Fun K "_law_long" "_law_long" sLl f fd) (T : TxtL mg) (cDr : CalN P w K mg base "_law_draw" 1 ["feed", "limit"] spDraw fD dD) (cLg : CalN P w K mg base "_law_long_number" 2 ["feed", "most", "below"] (spLg C) fG dG) : FnOk P w K mg base CX0 3 f fd ["feed", "most"] (spLl C) := by
  refine F.ok scLl (fun vs H Q E h => ?_) (fun cdv A outer s H vs Q E hr h => ?_)
  · obtain ⟨N, a, cl', rfl, _⟩ := h
    rfl
  · obtain ⟨N, a, cl', rfl, hF, al, na, k⟩ := h
    have hr1 : Room 1 _ := hr.mono (by decide)
    have hr2 : Room 2 _ := hr
    refine ⟨_, pss_cons (ps_set (i := 2) scLl.nd rfl (.inl rfl) (pe_call cDr.G hr1 rfl cDr.m cDr.kp cDr.b .nil pass0 (pa_cons (pv 0) (pa_cons pe_int pa_nil))))
      (pss_cons (ps_if (pt_cmpR op_gt (pv 2) pe_int (nomark _))
        (pss_one (ps_ret (pe_call cLg.G hr2 rfl cLg.m cLg.kp cLg.b .nil pass0 (pa_cons (pv 0) (pa_cons (pv 1) (pa_cons (pe_cmpR op_eq (pv 2) pe_int (nomark _)) pa_nil))))))
        pss_nil)
      (pss_cons (ps_set (i := 3) scLl.nd rfl (.inl rfl) (pe_tup (pa_cons pe_str (pa_cons (pe_ix ix_str pe_str (pe_call cDr.G hr1 rfl cDr.m cDr.kp cDr.b .nil pass0 (pa_cons (pv 0) (pa_cons pe_int pa_nil))) (fun _ _ => rfl)) pa_nil))))
      (pss_cons (ps_set (i := 4) scLl.nd rfl (.inl rfl) (pe_ix ix_tup (pv 3) pe_int (fun _ _ => rfl)))
      (pss_cons (ps_set (i := 5) scLl.nd rfl (.inl rfl) (pe_call cDr.G hr1 rfl cDr.m cDr.kp cDr.b .nil pass0 (pa_cons (pv 0) (pa_cons (pv 1) pa_nil))))
      (C8.pss_cut (ps_if (pt_cmpR op_gt (pv 2) pe_int (nomark _))
        (pss_one (ps_set (i := 5) scLl.nd rfl (.inl rfl) (pe_op op_fdiv (pv 5) pe_int)))
        pss_nil)
      (pss_cons (ps_for PassesOwn.never rfl (pi_range1 (by rfl) T.range (pa_cons (pv 5) pa_nil)) (pg_name (i := 6) scLl.nd rfl (.inl rfl))
        (pss_one (ps_if (pt_cmpR op_eq (pv 2) pe_int (nomark _))
          (pss_cons (ps_set (i := 3) scLl.nd rfl (.inl rfl) (pe_tup (pa_cons pe_str (pa_cons (pv 3) pa_nil))))
          (pss_one (ps_set (i := 4) scLl.nd rfl (.inl rfl) (pe_op op_add_str (pv 4) pe_str))))
          (pss_one (ps_if (pt_cmpR op_eq (pv 2) pe_int (nomark _))
            (pss_cons (ps_set (i := 3) scLl.nd rfl (.inl rfl) (pe_tup (pa_cons pe_str (pa_cons (pv 3) (pa_cons (pe_tup (pa_cons pe_str (pa_cons pe_str pa_nil))) pa_nil)))))
            (pss_one (ps_set (i := 4) scLl.nd rfl (.inl rfl) (pe_op op_add_str (pv 4) pe_str))))
            (pss_one (ps_if (pt_cmpR op_eq (pv 2) pe_int (nomark _))
              (pss_cons (ps_set (i := 3) scLl.nd rfl (.inl rfl) (pe_tup (pa_cons pe_str (pa_cons (pv 3) (pa_cons (pe_tup (pa_cons pe_str (pa_cons (pe_tup (pa_cons pe_int (pa_cons pe_int pa_nil))) pa_nil))) pa_nil)))))
              (pss_one (ps_set (i := 4) scLl.nd rfl (.inl rfl) (pe_op op_add_str (pv 4) pe_str))))
              (pss_cons (ps_set (i := 3) scLl.nd rfl (.inl rfl) (pe_tup (pa_cons pe_str (pa_cons (pv 3) (pa_cons (pe_tup (pa_cons pe_str (pa_cons (pe_ix ix_str pe_str (pe_op op_mod (pe_callTy call_int1 (by rfl) T.int (by decide +kernel) (pa_cons (pv 6) pa_nil)) pe_int) (fun _ _ => rfl)) pa_nil))) pa_nil)))))
              (pss_one (ps_set (i := 4) scLl.nd rfl (.inl rfl) (pe_op op_add_str (pe_op op_add_str (pv 4) pe_str) (pe_ix ix_str pe_str (pe_op op_mod (pe_callTy call_int1 (by rfl) T.int (by decide +kernel) (pa_cons (pv 6) pa_nil)) pe_int) (fun _ _ => rfl)))))))))))))
      (pss_one (ps_ret (pe_lst (pa_cons (pv 3) (pa_cons (pv 4) pa_nil))))))))))), ?_⟩
    refine ⟨_, rfl, a, cl', 6, rfl, hF, by decide, by decide, fun kd H1 k0 k6 f1 b1 => ?_⟩
    have al1 : Alc N H1 := al.keep (Keep.but b1 na f1.there)
    refine ⟨_, rfl, _, _, rfl, rfl, _, rfl, ite2 (fun _ => ?_) (fun kle => ?_)⟩
    · refine ⟨_, rfl, _, rfl, _, rfl, rfl, N, a, cl', 471, _, rfl, f1, by decide, by decide, al1, na, fun r t z H2 f2 b2 ht lo lz hz => k r t z H2 f2 (b1.trans b2) ht lo lz hz⟩
    have kle : ¬ (3 < kd) := fun h => kle (decide_eq_true h)
    refine ⟨_, rfl, a, cl', 4, rfl, f1, by decide, by decide, fun x H2 x0 x1 f2 b2 => ?_⟩
    obtain ⟨c, hc, c1, c2⟩ := sign4 x x0 x1
    refine ⟨_, _, _, rfl, rfl, (by decide), hc, (by show 2 ≤ sizeLine; decide), fun r nr => ?_⟩
    have s2 := Same.upd (o := .tup [.str "letter", .str (⟨#[c]⟩ : Str)]) nr
    have al2 : Alc N H2 := al1.keep (Keep.but b2 na f2.there)
    have hp2 : At C N (upd H2 r (.tup [.str "letter", .str (⟨#[c]⟩ : Str)])) (.ref r) (Tm.letter (⟨#[c]⟩ : Str)).own := mk_one al2 nr (.str _)
    have hr2' : (upd H2 r (.tup [.str "letter", .str (⟨#[c]⟩ : Str)])) r = some (.tup [.str "letter", .str (⟨#[c]⟩ : Str)]) := upd_same
    have f3 := f2.same s2
    have b3 := b1.trans (b2.trans (Same.but s2))
    have al3 := al2.keep (Same.keep (N := N) s2)
    generalize upd H2 r (.tup [.str "letter", .str (⟨#[c]⟩ : Str)]) = H3 at *
    refine ⟨_, rfl, r, _, 1, _, rfl, rfl, SqT.of hr2', rfl, ?_⟩
    refine ⟨_, rfl, _, rfl, a, cl', 471, rfl, f3, by decide, by decide, fun n H4 n0 n1 f4 b4 => ?_⟩
    have hp4 := hp2.keep (Keep.but b4 na f4.there)
    have b04 := b3.trans b4
    refine ⟨fun σ' G => ∃ m : Nat, σ' = [some (.ref a), some (.int 471), some (.int kd), some (.ref r), some (.str (⟨#[c]⟩ : Str)), some (.int (m : Int)), none] ∧ G = H4 ∧ (kd = 0 → m ≤ 470) ∧ (kd ≠ 0 → m ≤ 235), ?_, ?_⟩
    · refine ⟨_, rfl, _, _, rfl, rfl, _, rfl, ite2 (fun h => ?_) (fun h => ?_)⟩
      · have h := of_decide_eq_true h
        obtain ⟨m, em⟩ : ∃ m : Nat, n / 2 = (m : Int) := ⟨(n / 2).toNat, by omega⟩
        refine ⟨_, rfl, _, _, rfl, rfl, ⟨by decide, by decide⟩, m, ?_, rfl, fun z => absurd z (by omega), fun _ => by omega⟩
        show [_, _, _, _, _, some (V.int (n / 2)), _] = _
        rw [em]
      · have h : ¬ (0 < kd) := fun z => h (decide_eq_true z)
        obtain ⟨m, rfl⟩ : ∃ m : Nat, n = (m : Int) := ⟨n.toNat, by omega⟩
        exact ⟨m, rfl, rfl, fun _ => by omega, fun _ => by omega⟩
    rintro σ' G ⟨m, rfl, rfl, m0, m1⟩
    refine ⟨_, rfl, (m : Int), rfl, by omega, by omega, for_range (n := ((m : Int)).toNat) (fun i σ G' => ∃ (p : Addr) (t : Tm) (z : Str) (o6 : Option V), σ = [some (.ref a), some (.int 471), some (.int kd), some (.ref p), some (.str z), some (.int (m : Int)), o6] ∧ FeedAt G' a cl' ∧ But a H G' ∧ At C N G' (.ref p) t.own ∧ Lo (lvK kd) t (cl z) ∧ (kd = 0 → t.sz ≤ 1 + i ∧ z.length ≤ 1 + i) ∧ (kd ≠ 0 → t.sz ≤ 1 + 2 * i ∧ z.length ≤ 1 + 2 * i))
      ⟨r, _, _, none, rfl, f4, b04, hp4, .letter ⟨c1, c2⟩, fun _ => ⟨Nat.le_refl _, Nat.le_refl _⟩, fun _ => ⟨Nat.le_refl _, Nat.le_refl _⟩⟩ ?_ ?_⟩
    · rintro i σ G' hi ⟨p, t, z, o6, rfl, f5, b5, hp, lo, z0, z1⟩
      have hi : i < m := by omega
      have al5 : Alc N G' := al.keep (Keep.but b5 na f5.there)
      have lz : z.length ≤ 1000 ∧ t.sz ≤ 1000 := by
        by_cases h : kd = 0
        · have := z0 h; have := m0 h; omega
        · have := z1 h; have := m1 h; omega
      have q1 : ("*" : Str).length = 1 := rfl
      have q2 : (".b" : Str).length = 2 := rfl
      have q3 : ("+7" : Str).length = 2 := rfl
      have q4 : ("+" : Str).length = 1 := rfl
      refine ⟨_, rfl, rfl, _, rfl, ite2 (fun h => ?_) (fun h => ?_)⟩
      · have h := V.int.inj (of_decide_eq_true h)
        subst h
        refine ⟨_, rfl, (by show 2 ≤ sizeLine; decide), fun q nq => ⟨_, rfl, _, _, rfl, rfl, line_le (by omega), ?_⟩⟩
        have sq := Same.upd (o := .tup [.str "star", .ref p]) nq
        refine ⟨q, .star t, z ++ "*", _, rfl, f5.same sq, b5.trans (Same.but sq), mk_one al5 nq hp, ?_, fun _ => ?_, fun e => absurd rfl e⟩
        · rw [cl_app]; exact .star lo
        · have := z0 rfl
          rw [str_len]
          show t.sz + 1 ≤ _ ∧ _
          omega
      have k0' : kd ≠ 0 := fun e => h (decide_eq_true (by rw [e]))
      have zz := z1 k0'
      have mm := m1 k0'
      refine ⟨_, rfl, rfl, _, rfl, ite2 (fun h => ?_) (fun h => ?_)⟩
      · have h := V.int.inj (of_decide_eq_true h)
        subst h
        refine ⟨_, rfl, (by show 2 ≤ sizeLine; decide), fun q nq => ⟨(by show 3 ≤ sizeLine; decide), fun q' nq' => ⟨_, rfl, _, _, rfl, rfl, line_le (by omega), ?_⟩⟩⟩
        have sq := Same.upd (o := .tup [.str "letter", .str "b"]) nq
        have sq' := Same.upd (o := .tup [.str "row", .ref p, .ref q]) nq'
        have s := sq.trans sq'
        have hb : At C N (upd G' q (.tup [.str "letter", .str "b"])) (.ref q) (Tm.letter (sg 98)).own := mk_one al5 nq (.str _)
        refine ⟨q', .row t (.letter (sg 98)), z ++ ".b", _, rfl, f5.same s, b5.trans (Same.but s), mk_two (al5.keep (Same.keep (N := N) sq)) nq' (hp.same sq) hb, ?_, fun e => absurd e k0', fun _ => ?_⟩
        · rw [cl_app]; exact .row (l := 1) lo (.letter (by decide)) (Nat.le_refl 1)
        · rw [str_len]
          show t.sz + 1 + 1 ≤ _ ∧ _
          omega
      have k1' : kd ≠ 1 := fun e => h (decide_eq_true (by rw [e]))
      have lv0 : lvK kd = 0 := by unfold lvK; rw [if_neg k0', if_neg k1']
      rw [lv0] at lo
      refine ⟨_, rfl, rfl, _, rfl, ite2 (fun h => ?_) (fun h => ?_)⟩
      · refine ⟨_, rfl, (by show 2 ≤ sizeLine; decide), fun q0 nq0 => ⟨(by show 2 ≤ sizeLine; decide), fun q nq => ⟨(by show 3 ≤ sizeLine; decide), fun q' nq' => ⟨_, rfl, _, _, rfl, rfl, line_le (by omega), ?_⟩⟩⟩⟩
        obtain ⟨q7, e1, e2⟩ := pr_of (n := 7) (d := 1) (by decide) (by decide)
        have s0 := Same.upd (o := .tup [.int 7, .int 1]) nq0
        have sq := Same.upd (o := .tup [.str "number", .ref q0]) nq
        have sq' := Same.upd (o := .tup [.str "plus", .ref p, .ref q]) nq'
        have s := s0.trans (sq.trans sq')
        have al6 := al5.keep (Same.keep (N := N) s0)
        have h0 := at_pair (C := C) (show PairAt (upd G' q0 (.tup [.int 7, .int 1])) q0 q7.num (q7.den : Int) by rw [e1, e2]; exact upd_same) (al5.fresh nq0)
        have hb := mk_one (k := "number") al6 nq h0
        refine ⟨q', .plus t (.num q7), z ++ "+7", _, rfl, f5.same s, b5.trans (Same.but s), mk_two (al6.keep (Same.keep (N := N) sq)) nq' (hp.same (s0.trans sq)) hb, ?_, fun e => absurd e k0', fun _ => ?_⟩
        · rw [lv0, cl_app]
          have e : q7 = ((7 : Int) : Rat) / ((1 : Int) : Rat) := by
            have h := RQ.nd q7
            rw [e1, e2] at h
            rw [h, Rat.mul_div_cancel (by decide)]
          rw [e]
          exact .plus lo (.num (.int (.inl ⟨show AllDigits [48 + 7] from ad_one (by omega), by decide, rfl⟩)))
        · rw [str_len]
          show t.sz + 1 + 1 ≤ _ ∧ _
          omega
      · obtain ⟨c', hc', c1', c2'⟩ := sign4 ((0 + (i : Int)) % 4) (by omega) (by omega)
        have q5 : (⟨#[c']⟩ : Str).length = 1 := rfl
        refine ⟨_, rfl, _, rfl, .inl ⟨_, rfl, _, _, rfl, rfl, (by show (0 : Int) < 4; decide), _, _, _, rfl, rfl, (by decide), hc', (by show 2 ≤ sizeLine; decide), fun q nq => ⟨(by show 3 ≤ sizeLine; decide), fun q' nq' => ?_⟩⟩⟩
        refine ⟨_, rfl, _, _, rfl, rfl, line_le (by omega), _, rfl, .inl ⟨_, rfl, _, _, rfl, rfl, (by show (0 : Int) < 4; decide), _, _, _, rfl, rfl, (by decide), hc', _, _, rfl, rfl, line_le (by rw [str_len]; omega), ?_⟩⟩
        have sq := Same.upd (o := .tup [.str "letter", .str (⟨#[c']⟩ : Str)]) nq
        have sq' := Same.upd (o := .tup [.str "plus", .ref p, .ref q]) nq'
        have s := sq.trans sq'
        have hb : At C N (upd G' q (.tup [.str "letter", .str (⟨#[c']⟩ : Str)])) (.ref q) (Tm.letter (sg c')).own := mk_one al5 nq (.str _)
        refine ⟨q', .plus t (.letter (sg c')), (z ++ "+") ++ (⟨#[c']⟩ : Str), _, rfl, f5.same s, b5.trans (Same.but s), mk_two (al5.keep (Same.keep (N := N) sq)) nq' (hp.same sq) hb, ?_, fun e => absurd e k0', fun _ => ?_⟩
        · rw [lv0, cl_app, cl_app, List.append_assoc]
          exact .plus lo (.letter ⟨c1', c2'⟩)
        · rw [str_len, str_len]
          show t.sz + 1 + 1 ≤ _ ∧ _
          omega
    · rintro σ G' ⟨p, t, z, o6, rfl, f5, b5, hp, lo, z0, z1⟩
      have al5 : Alc N G' := al.keep (Keep.but b5 na f5.there)
      have lz : z.length ≤ 480 ∧ t.sz ≤ 480 := by
        by_cases h : kd = 0
        · have := z0 h; have := m0 h; omega
        · have := z1 h; have := m1 h; omega
      refine ⟨_, rfl, _, rfl, (by show 2 ≤ sizeLine; decide), fun q nq => ?_⟩
      have sq := Same.upd (o := .lst [.ref p, .str z]) nq
      exact k q t z _ (f5.same sq) (b5.trans (Same.but sq)) (At.newL al5 nq rfl (itemsC hp (items1 (.str _)))) (lo_down lo) (by omega) (by omega)
end
end RX

set_option Elab.async false
set_option maxRecDepth 100000
namespace RX
open PySem L2 AU NumText
abbrev sBl : Stmt := topS 53
theorem scBl : FnScope ["feed", "term", "share"] ["feed"] (defScope sBl) := ⟨rfl, rfl, rfl, by decide +kernel, rfl, by decide +kernel, by decide +kernel⟩
def spBl (C : Addr) : Sp := fun vs H Q _ => ∃ (N : Addr → Prop) (a cl' : Addr), vs = [.ref a] ∧ FeedAt H a cl' ∧ Alc N H ∧ N a ∧
  ∀ (r : Addr) (t : Tm) (s : Str) (H' : Hp), FeedAt H' a cl' → But a H H' → At C N H' (.ref r) (ptD t s) → Lo 0 t (cl s) → s.length ≤ 60000 → t.sz ≤ 480 → Q (.ref r) H'
section
variable {P : Program} {w : World} {K : PySem.W.Frag} {mg : Str → Option Value} {base : Heap}
theorem ok_bl {C f fD fG fT fP : Addr} {fd dD dG dT dP : FuncData} (F : Fun K "_law_built" "_law_built" sBl f fd) (cDr : CalN P w K mg base "_law_draw" 1 ["feed", "limit"] spDraw fD dD) (cLl : CalN P w K mg base "_law_long" 3 ["feed", "most"] (spLl C) fG dG) (cTe : CalN P w K mg base "_law_term" 5 ["feed"] (spTe C) fT dT)
    (cLp : CalN P w K mg base "_law_loose_part" 123 ["feed", "term", "barred", "share"] (spLop C 59) fP dP) : FnOk P w K mg base CX0 124 f fd ["feed"] (spBl C) := by
  refine F.ok scBl (fun vs H Q E h => ?_) (fun cdv A outer s H vs Q E hr h => ?_)
  · obtain ⟨N, a, cl', rfl, _⟩ := h
    rfl
  · obtain ⟨N, a, cl', rfl, hF, al, na, k⟩ := h
    have hr1 : Room 1 _ := hr.mono (by decide)
    have hr3 : Room 3 _ := hr.mono (by decide)
    have hr5 : Room 5 _ := hr.mono (by decide)
    have hrP : Room 123 _ := hr
    refine ⟨_, pss_cons (ps_if (pt_cmpR op_eq (pe_call cDr.G hr1 rfl cDr.m cDr.kp cDr.b .nil pass0 (pa_cons (pv 0) (pa_cons pe_int pa_nil))) pe_int (nomark _))
        (pss_one (ps_ret (pe_call cLl.G hr3 rfl cLl.m cLl.kp cLl.b .nil pass0 (pa_cons (pv 0) (pa_cons pe_int pa_nil)))))
        pss_nil)
      (pss_cons (ps_set (i := 1) scBl.nd rfl (.inl rfl) (pe_call cTe.G hr5 rfl cTe.m cTe.kp cTe.b .nil pass0 (pa_cons (pv 0) pa_nil)))
      (pss_cons (ps_set (i := 2) scBl.nd rfl (.inl rfl) (pe_op op_add pe_int (pe_call cDr.G hr1 rfl cDr.m cDr.kp cDr.b .nil pass0 (pa_cons (pv 0) (pa_cons pe_int pa_nil)))))
      (pss_one (ps_ret (pe_lst (pa_cons (pv 1) (pa_cons (pe_call cLp.G hrP rfl cLp.m cLp.kp cLp.b .nil pass0 (pa_cons (pv 0) (pa_cons (pv 1) (pa_cons (pe_lst pa_nil) (pa_cons (pv 2) pa_nil))))) pa_nil))))))), ?_⟩
    refine ⟨_, rfl, a, cl', 4, rfl, hF, by decide, by decide, fun kd H1 k0 k6 f1 b1 => ?_⟩
    have al1 : Alc N H1 := al.keep (Keep.but b1 na f1.there)
    refine ⟨rfl, _, rfl, ite2 (fun _ => ?_) (fun _ => ?_)⟩
    · exact ⟨_, rfl, N, a, cl', rfl, f1, al1, na, fun r t z H2 f2 b2 ht lo lz hz => k r t z H2 f2 (b1.trans b2) ht lo (by omega) hz⟩
    refine ⟨_, rfl, N, a, cl', rfl, f1, al1, na, fun p t H2 f2 b2 ht okt hz => ?_⟩
    refine ⟨_, rfl, a, cl', 8, rfl, f2, by decide, by decide, fun x H3 x0 x1 f3 b3 => ⟨_, _, rfl, rfl, ?_⟩⟩
    have al2 : Alc N H2 := al1.keep (Keep.but b2 na f2.there)
    have al3 : Alc N H3 := al2.keep (Keep.but b3 na f3.there)
    have ht3 := ht.keep (Keep.but b3 na f3.there)
    have b03 := b1.trans (b2.trans b3)
    refine ⟨_, rfl, _, rfl, _, rfl, (by show 0 ≤ sizeLine; decide), fun l nl => ⟨_, rfl, ?_⟩⟩
    have sl := Same.upd (o := .lst []) nl
    refine ⟨N, a, cl', p, l, t, _, [], 0, rfl, f3.same sl, ht3.same sl, al3.keep (Same.keep (N := N) sl), na, okt, hz, hz, by omega, by omega, upd_same, (f3.ne_new nl).1, rfl, fun _ => Nat.zero_le _, fun z H4 f4 b4 lo lz => ?_⟩
    have b34 := (Same.but (a := a) sl).trans b4
    have ht4 := ht3.keep (Keep.but b34 na f4.there)
    have al4 : Alc N H4 := al3.keep (Keep.but b34 na f4.there)
    refine ⟨(by show 2 ≤ sizeLine; decide), fun q nq => ?_⟩
    have sq := Same.upd (o := .lst [.ref p, .str z]) nq
    exact k q t z _ (f4.same sq) (b03.trans (b34.trans (Same.but sq))) (At.newL al4 nq rfl (itemsC ht4 (items1 (.str _)))) lo (by omega) (by omega)
end
end RX

set_option Elab.async false
set_option maxRecDepth 100000
namespace RX
open PySem L2 L2H XH AU
abbrev sAs : Stmt := topS 52
theorem scAs : FnScope ["said", "term", "place", "found", "e"] ["said", "term"] (defScope sAs) := ⟨rfl, rfl, rfl, by decide +kernel, rfl, by decide +kernel, by decide +kernel⟩
def spIsP : SpP := fun _ vs H Q _ => ∃ n : Int, vs = [.int n] ∧ Q (.bl true) H
def tSuite (a : Addr) (cls : Value) (d : Option Addr) (D : Nat → Addr) : TS := fun M σ H => ∃ (s : Str) (k : Nat) (o1 o2 : Option V) (dd : Addr), σ = [some (.str s), o1, some (.int (k : Int)), o2, some (.ref a)] ∧ cls = .ref (D 4) ∧ d = some dd ∧ H dd = some (.xd [("what", .int (k : Int))]) ∧ ∀ H', Same H H' → M.rt (.bl true) H'
def spAs (C : Addr) : Sp := fun vs H Q _ => ∃ (N : Addr → Prop) (s : Str) (q : Addr) (t : Tm), vs = [.str s, .ref q] ∧ At C N H (.ref q) t.own ∧ Alc N H ∧ Lo 0 t (cl s) ∧ s.length ≤ 60000 ∧ t.sz ≤ 480 ∧ ∀ H', Same H H' → Q (.bl true) H'
section
variable {P : Program} {w : World} {K : PySem.W.Frag} {mg : Str → Option Value} {base : Heap}
theorem scIsP : FnScope ["actual"] ["actual"] (defScope sIsInt) := ⟨rfl, rfl, rfl, by decide +kernel, rfl, by decide +kernel, by decide +kernel⟩
theorem ok_isP {f : Addr} {fd : FuncData} (F : Fun K "_law_is_integer" "_law_is_integer" sIsInt f fd) (T : TxtL mg) : FnP P w K mg base CX0 1 f fd ["actual"] spIsP := by
  refine ok_hot F scIsP (fun z vs H Q E h => ?_) (fun cdv z A outer s H vs Q E hot hr h => ?_)
  · obtain ⟨n, rfl, _⟩ := h
    rfl
  · obtain ⟨n, rfl, k⟩ := h
    refine ⟨_, pss_one (ps_ret (pe_and (pe_callB call_isi (by rfl) T.isi (by decide +kernel) (pa_cons (pv 0) (pa_cons (pe_bltn (v := .ty "int") (by rfl) T.int (by decide +kernel) rfl) pa_nil)))
      (pe_one (pe_not (pe_callB call_isi (by rfl) T.isi (by decide +kernel) (pa_cons (pv 0) (pa_cons (pe_bltn (v := .ty "bool") (by rfl) T.bool (by decide +kernel) rfl) pa_nil))))))), ?_⟩
    refine ⟨_, rfl, _, _, _, _, true, rfl, .ty _, .base (.int n), kit_ty (by decide +kernel), true, rfl, ?_⟩
    refine iteT ?_
    exact ⟨_, rfl, _, _, _, _, false, rfl, .ty _, .base (.int n), kit_ty (by decide +kernel), false, rfl, k⟩
theorem ok_as {f fP fR fW fM fU fI fS C : Addr} {fd dP dR dM dU dI dS : FuncData} {D : Nat → Addr} (F : Fun K "_law_asked" "_law_asked" sAs f fd) (T : TxtL mg) (cSt : CalN P w K mg base "_law_same_term" 3 ["actual", "due"] (spSt C) fS dS) (R : Errs K mg fW D) (cPl : CalN P w K mg base "_law_place" 2 ["told"] spPl fP dP)
    (GR : FnOk P w K mg base (L2N.CX P w) 5 fR dR ["text"] (spRs C D)) (mR : mg "read_sum" = some (.ref fR)) (kR : PySem.W.keepIn K (.ref fR) = true) (bR : Binds K dR ["text"] [])
    (cM : CalP P w K mg base "_law_marks" 1 ["e"] (spMarks D) fM dM) (cU : CalP P w K mg base "_law_due_marks" 1 ["k"] spDue fU dU) (cI : CalP P w K mg base "_law_is_integer" 1 ["actual"] spIsP fI dI) : FnOk P w K mg base CX0 7 f fd ["said", "term"] (spAs C) := by
  refine F.ok scAs (fun vs H Q E h => ?_) (fun cdv A outer s H vs Q E hr h => ?_)
  · obtain ⟨N, s, q, t, rfl, _⟩ := h
    rfl
  · have hr3 : Room 3 _ := hr.mono (by decide)
    have hr1 : Room 1 _ := hr.mono (by decide)
    have hr2 : Room 2 _ := hr.mono (by decide)
    have hr5 : Room 5 _ := hr.mono (by decide)
    refine ⟨_, pss_cons (ps_set (i := 2) scAs.nd rfl (.inl rfl) (pe_call cPl.G hr2 rfl cPl.m cPl.kp cPl.b .nil pass0 (pa_cons (pv 0) pa_nil)))
      (pss_cons (ps_set (i := 3) scAs.nd rfl (.inl rfl) pe_non)
      (pss_cons (L2N.ps_try_as (i := 4) (tb := fun W => tAsg (tCallS (spRs C D) (WE W) (tCons (tVar 0) tNil)) (gName 3)) (ts := fun a cls d => tSuite a cls d D) (Wout := fun _ _ _ _ => False) rfl rfl scAs.nd rfl rfl ⟨rfl, by decide, Or.inl R.m10⟩ nothing_out
        (fun W pn xe tk _ => pss_one (ps_set (i := 3) scAs.nd rfl (.inl rfl) (by exact (pe_callS (E := WE W) GR hr5 (by rfl) mR kR bR (fun σ => L2N.passAt tk σ) (pa_cons (pv 0) pa_nil)))))
        (fun a oe cls d pn hz hf => by
          refine PSs_imp (pss_cons (ps_if (PW.pt (pw_or (pt_cmpR op_lt (pv 2) pe_int (nomark _)) (pw_or1 (pt_not (pt_val (pe_callP (E := E00) cI.G (roomH_mark hr1 _) (hot_of hz hf) List.mem_cons_self (by rfl) cI.m cI.kp cI.b pass_at0 (pa_cons (pe_xf (R.xf 4 (by decide)) (R.no 4 (by decide)) hz.zc hf (pv 4)) pa_nil))))))) (pss_one ps_never) pss_nil)
            (pss_one (ps_ret (pe_and (pe_cmpR op_eq (pe_xf (R.xf 4 (by decide)) (R.no 4 (by decide)) hz.zc hf (pv 4)) (pv 2) (nomark _)) (pe_one (pe_imp (mrk_told (mono_var 4) (mono_c _) hz hf)
              (pe_cmpR (op_eqD (unitsM hr _)) (pe_callP cM.G (roomH_mark hr1 _) (hot_of hz hf) List.mem_cons_self (by rfl) cM.m cM.kp cM.b pass_at0 (pa_cons (pv 4) pa_nil)) (pe_callP cU.G (roomH_mark hr1 _) (hot_of hz hf) List.mem_cons_self (by rfl) cU.m cU.kp cU.b pass_at0 (pa_cons pe_int pa_nil)) (nomark _)))))))) ?_
          rintro M σ H ⟨s, k, o1, o2, dd, rfl, rfl, rfl, hd, kk⟩
          refine ⟨_, rfl, _, _, rfl, rfl, _, rfl, iteF' (decide_eq_false (by omega)) ?_⟩
          refine ⟨_, rfl, rfl, rfl, dd, _, .int (k : Int), rfl, hd, rfl, (k : Int), rfl, true, rfl, iteF' rfl ?_⟩
          refine ⟨_, rfl, rfl, rfl, dd, _, .int (k : Int), rfl, hd, rfl, _, rfl, rfl, true, (by rw [decide_eq_true rfl]), iteT ?_⟩
          exact ⟨_, rfl, rfl, 4, dd, _, by decide, rfl, rfl, hd, fun H2 s2 => ⟨rfl, Same.refl _, fun H3 s3 => kk H3 (s2.trans s3)⟩⟩))
      (pss_one (ps_ret (pe_and (pe_cmpR op_lt (pv 2) pe_int (nomark _)) (pe_one (pe_call cSt.G hr3 rfl cSt.m cSt.kp cSt.b .nil pass0 (pa_cons (pv 3) (pa_cons (pv 1) pa_nil))))))))), ?_⟩
    obtain ⟨N, s, q, t, rfl, hq, al, lo, ls, hz, k9⟩ := h
    refine ⟨_, rfl, s, rfl, ls, fun H1 s1 => ?_⟩
    cases hb : bad (cl s) with
    | some k =>
      refine ⟨_, rfl, s, rfl, ls, .inl ⟨k, hb, fun dd H2 H' s2 fl => ?_⟩⟩
      refine ⟨true, R.exm 4 (by decide), fun _ a na => ?_, fun q => Bool.noConfusion q⟩
      exact ⟨s, k, _, _, dd, rfl, rfl, rfl, fl.x, fun H3 s3 => k9 H3 (s1.trans (s2.trans (fl.s.trans s3)))⟩
    | none =>
      obtain ⟨d, r, x, run, ew⟩ := lo_whole lo
      refine ⟨_, rfl, s, rfl, ls, .inr ⟨hb, N, d, r, x, al.keep (Same.keep (N := N) s1), run, fun v H2 s2 hv => ?_⟩⟩
      rw [ew] at hv
      obtain ⟨p, rfl⟩ := made_ref hv
      have s12 := s1.trans s2
      refine ⟨_, rfl, _, _, rfl, rfl, true, rfl, iteT' rfl ?_⟩
      exact ⟨_, rfl, _, rfl, N, p, q, t, rfl, hv, hq.same s12, al.keep (Same.keep (N := N) s12), hz, fun H3 s3 => k9 H3 (s12.trans s3)⟩
end
end RX

set_option Elab.async false
set_option maxRecDepth 100000
namespace RX
open PySem L2 AU
abbrev sLaw : Stmt := topS 54
theorem scL : FnScope ["script", "feed", "one", "two", "turn"] ["script"] (defScope sLaw) := ⟨rfl, rfl, rfl, by decide +kernel, rfl, by decide +kernel, by decide +kernel⟩
def spLaw (K : PySem.W.Frag) : Sp := fun vs H Q _ => ∃ (a : Addr) (ns : List Int), vs = [.ref a] ∧ SqL K H a (ns.map V.int) ∧ ns.length ≤ 63 ∧ ∀ H', Q (.bl true) H'
theorem at_ptD {C : Addr} {N : Addr → Prop} {H : Hp} {r : Addr} {t : Tm} {z : Str} (h : At C N H (.ref r) (ptD t z)) : ∃ p, H r = some (.lst [.ref p, .str z]) ∧ At C N H (.ref p) t.own := by
  obtain ⟨xs, hp, l, e⟩ := At.lstE h
  match xs, l with
  | [v0, v1], _ =>
    have h0 := e 0 v0 _ rfl rfl
    have h1 := (e 1 v1 _ rfl rfl).strV
    subst h1
    obtain ⟨x, rfl⟩ := own_ref h0
    exact ⟨x, hp, h0⟩
section
variable {P : Program} {w : World} {K : PySem.W.Frag} {mg : Str → Option Value} {base : Heap}
theorem ok_law {f fFe fB fA C : Addr} {fd dFe dB dA : FuncData} (F : Fun K "law" "law" sLaw f fd) (T : TxtL mg)
    (cFe : CalN P w K mg base "_law_feed" 1 ["script"] (spFeed K) fFe dFe) (cBl : CalN P w K mg base "_law_built" 124 ["feed"] (spBl C) fB dB) (cAs : CalN P w K mg base "_law_asked" 7 ["said", "term"] (spAs C) fA dA) :
    FnOk P w K mg base CX0 125 f fd ["script"] (spLaw K) := by
  refine F.ok scL (fun vs H Q E h => ?_) (fun cdv A outer s H vs Q E hr h => ?_)
  · obtain ⟨a, ns, rfl, _⟩ := h
    rfl
  · obtain ⟨sc, ns, rfl, hS, hl, k⟩ := h
    have hr1 : Room 1 _ := hr.mono (by decide)
    have hr7 : Room 7 _ := hr.mono (by decide)
    have hrB : Room 124 _ := hr
    refine ⟨_, pss_cons (ps_set (i := 1) scL.nd rfl (.inl rfl) (pe_call cFe.G hr1 rfl cFe.m cFe.kp cFe.b .nil pass0 (pa_cons (pv 0) pa_nil)))
      (pss_cons (ps_set (i := 2) scL.nd rfl (.inl rfl) (pe_call cBl.G hrB rfl cBl.m cBl.kp cBl.b .nil pass0 (pa_cons (pv 1) pa_nil)))
      (pss_cons (ps_set (i := 3) scL.nd rfl (.inl rfl) (pe_call cBl.G hrB rfl cBl.m cBl.kp cBl.b .nil pass0 (pa_cons (pv 1) pa_nil)))
      (pss_cons (ps_for PassesOwn.never rfl (pi_range1 (by rfl) T.range (pa_cons pe_int pa_nil)) (pg_name (i := 4) scL.nd rfl (.inl rfl))
        (pss_one (ps_if (PW.pt (pw_or (pt_not (pt_val (pe_call cAs.G hr7 rfl cAs.m cAs.kp cAs.b .nil pass0 (pa_cons (pe_ix ix_list (pv 2) pe_int (fun _ _ => rfl)) (pa_cons (pe_ix ix_list (pv 2) pe_int (fun _ _ => rfl)) pa_nil))))) (pw_or1 (pt_not (pt_val (pe_call cAs.G hr7 rfl cAs.m cAs.kp cAs.b .nil pass0 (pa_cons (pe_ix ix_list (pv 3) pe_int (fun _ _ => rfl)) (pa_cons (pe_ix ix_list (pv 3) pe_int (fun _ _ => rfl)) pa_nil))))))))
          (pss_one ps_never)
          pss_nil)))
      (pss_one (ps_ret pe_bl))))), ?_⟩
    refine ⟨_, rfl, sc, ns, rfl, hS, hl, fun a cl' H1 s1 nfe ncl f1 => ?_⟩
    have al0 : Alc (K1 a) H1 := fun b hb => by rw [show b = a from hb]; exact f1.there
    refine ⟨_, rfl, K1 a, a, cl', rfl, f1, al0, rfl, fun r t z H2 f2 b2 ht lo lz hz => ?_⟩
    have al2 : Alc (K1 a) H2 := al0.keep (keep_feed b2 f2)
    refine ⟨_, rfl, K1 a, a, cl', rfl, f2, al2, rfl, fun r' t' z' H3 f3 b3 ht' lo' lz' hz' => ?_⟩
    have al3 : Alc (K1 a) H3 := al2.keep (keep_feed b3 f3)
    obtain ⟨p, hp, hP⟩ := at_ptD (ht.keep (keep_feed b3 f3))
    obtain ⟨p', hp', hP'⟩ := at_ptD ht'
    refine ⟨2, rfl, by decide, by decide, for_range (n := 2) (fun i σ G => ∃ (o4 : Option V), σ = [some (.ref sc), some (.ref a), some (.ref r), some (.ref r'), o4] ∧ Same H3 G) ⟨_, rfl, Same.refl _⟩ ?_ ?_⟩
    · rintro i σ G hi ⟨o4, rfl, sG⟩
      refine ⟨_, rfl, r, _, 1, _, rfl, rfl, SqL.of (sG _ _ hp), rfl, _, rfl, r, _, 0, _, rfl, rfl, SqL.of (sG _ _ hp), rfl, K1 a, z, p, t, rfl, hP.same sG, al3.keep (Same.keep (N := K1 a) sG), lo, lz, hz, fun G2 s2 => ?_⟩
      have sG2 := sG.trans s2
      refine ⟨true, rfl, iteF' rfl ?_⟩
      refine ⟨_, rfl, r', _, 1, _, rfl, rfl, SqL.of (sG2 _ _ hp'), rfl, _, rfl, r', _, 0, _, rfl, rfl, SqL.of (sG2 _ _ hp'), rfl, K1 a, z', p', t', rfl, hP'.same sG2, al3.keep (Same.keep (N := K1 a) sG2), lo', lz', hz', fun G3 s3 => ?_⟩
      refine ⟨true, rfl, iteF' rfl ?_⟩
      exact ⟨_, rfl, sG2.trans s3⟩
    · rintro σ G ⟨o4, rfl, sG⟩
      exact k G
end
end RX

set_option Elab.async false
set_option maxRecDepth 100000
namespace RX
open PySem L2 L2H XH AU

set_option maxHeartbeats 0 in
theorem all_mk {l : PySem.W.OpenLaw} {w : World} {K : PySem.W.Frag} {h : Heap} {mg : Str → Option Value} {fa C fFe fDr fGr fPa fIs fSa fMk fDu fLf fJo fBu fCh fWi fTe fSt fFo fPl fNx fWp fTk fTw fLe fBt fRs fAs fLn fLp fLo fLg fLl fBl fL fI  TT : Addr} (X : K.In h) (G : h.Ns mainGlobals mg) (hfa : mg "law" = some (.ref fa))
    {odFe odDr odGr odPa odIs odSa odMk odDu odLf odJo odBu odCh odWi odTe odSt odFo odPl odNx odWp odTk odTw odLe odBt odRs odAs odLn odLp odLo odLg odLl odBl odL odI odT anFe anDr anGr anPa anIs anSa anMk anDu anLf anJo anBu anCh anWi anTe anSt anFo anPl anNx anWp anTk anTw anLe anBt anRs anAs anLn anLp anLo anLg anLl anBl anL anI : Option Addr} {slFe slDr slGr slPa slIs slSa slMk slDu slLf slJo slBu slCh slWi slTe slSt slFo slPl slNx slWp slTk slTw slLe slBt slRs slAs slLn slLp slLo slLg slLl slBl slL slI slT : Array (Option Value)} {ocFe kVFe dcFe pmFe cdFe ctFe ocDr kVDr dcDr pmDr cdDr ctDr ocGr kVGr dcGr pmGr cdGr ctGr ocPa kVPa dcPa pmPa cdPa ctPa ocIs kVIs dcIs pmIs cdIs ctIs ocSa kVSa dcSa pmSa cdSa ctSa ocMk kVMk dcMk pmMk cdMk ctMk ocDu kVDu dcDu pmDu cdDu ctDu ocLf kVLf dcLf pmLf cdLf ctLf ocJo kVJo dcJo pmJo cdJo ctJo ocBu kVBu dcBu pmBu cdBu ctBu ocCh kVCh dcCh pmCh cdCh ctCh ocWi kVWi dcWi pmWi cdWi ctWi ocTe kVTe dcTe pmTe cdTe ctTe ocSt kVSt dcSt pmSt cdSt ctSt ocFo kVFo dcFo pmFo cdFo ctFo ocPl kVPl dcPl pmPl cdPl ctPl ocNx kVNx dcNx pmNx cdNx ctNx ocWp kVWp dcWp pmWp cdWp ctWp ocTk kVTk dcTk pmTk cdTk ctTk ocTw kVTw dcTw pmTw cdTw ctTw ocLe kVLe dcLe pmLe cdLe ctLe ocBt kVBt dcBt pmBt cdBt ctBt ocRs kVRs dcRs pmRs cdRs ctRs ocAs kVAs dcAs pmAs cdAs ctAs ocLn kVLn dcLn pmLn cdLn ctLn ocLp kVLp dcLp pmLp cdLp ctLp ocLo kVLo dcLo pmLo cdLo ctLo ocLg kVLg dcLg pmLg cdLg ctLg ocLl kVLl dcLl pmLl cdLl ctLl ocBl kVBl dcBl pmBl cdBl ctBl ocL kVL dcL pmL cdL ctL ocI kVI dcI pmI cdI ctI ocT : Value} {tkT : Tok} {nT0 : Nat} {PO EA tpart tpart0 tpart1 tpart2 tpart3 tpart4 tminus tminus0 tzero tzero0 tzero1 tzero2 ttop ttop0 ttop1 ttop2 ttop3 tslash tslash0 tbottom tbottom0 tbottom1 tbottom2 tdone tdone0 tdone1 : Addr} {esP : Array DictEntry} {tk1 tk2 tk3 tk4 tLO tDE utpart0 vtpart0 utpart1 vtpart1 utpart2 vtpart2 utpart3 vtpart3 utpart4 vtpart4 utminus0 vtminus0 utzero0 vtzero0 utzero1 vtzero1 utzero2 vtzero2 uttop0 vttop0 uttop1 vttop1 uttop2 vttop2 uttop3 vttop3 utslash0 vtslash0 utbottom0 vtbottom0 utbottom1 vtbottom1 utbottom2 vtbottom2 utdone0 vtdone0 utdone1 vtdone1 : Tok} {odEN odtpart odtpart0 odtpart1 odtpart2 odtpart3 odtpart4 odtminus odtminus0 odtzero odtzero0 odtzero1 odtzero2 odttop odttop0 odttop1 odttop2 odttop3 odtslash odtslash0 odtbottom odtbottom0 odtbottom1 odtbottom2 odtdone odtdone0 odtdone1 : Option Addr} {nPO nEN ntpart ntpart0 ntpart1 ntpart2 ntpart3 ntpart4 ntminus ntminus0 ntzero ntzero0 ntzero1 ntzero2 nttop nttop0 nttop1 nttop2 nttop3 ntslash ntslash0 ntbottom ntbottom0 ntbottom1 ntbottom2 ntdone ntdone0 ntdone1 : Nat} {slEN sltpart sltpart0 sltpart1 sltpart2 sltpart3 sltpart4 sltminus sltminus0 sltzero sltzero0 sltzero1 sltzero2 slttop slttop0 slttop1 slttop2 slttop3 sltslash sltslash0 sltbottom sltbottom0 sltbottom1 sltbottom2 sltdone sltdone0 sltdone1 : Array (Option Value)} {E0 E1 E2 E3 E4 E5 E6 E7 E8 E9 E10 fW TW : Addr} {ocW kVW dcW pmW cdW ctW ocU : Value} {odW anW odU : Option Addr} {slW slU : Array (Option Value)} {nU : Nat} {nm0 nm1 nm2 nm3 nm4 nm5 nm6 nm7 nm8 nm9 nm10 : Str} {q0 q1 q2 q3 q4 q5 q6 q7 q8 q9 q10 : Str} {N0 N1 N2 N3 N4 N5 N6 N7 N8 N9 N10 : Addr} {bs0 bs1 bs2 bs3 bs4 bs5 bs6 bs7 bs8 bs9 bs10 : List Value} {sn0 sn1 sn2 sn3 sn4 sn5 sn6 sn7 sn8 sn9 sn10 : List Str} {su0 su1 su2 su3 su4 su5 su6 su7 su8 su9 su10 : List Value} {ab0 ab1 ab2 ab3 ab4 ab5 ab6 ab7 ab8 ab9 ab10 : Bool} {co0 co1 co2 co3 co4 co5 co6 co7 co8 co9 co10 : Option Bool} {de0 de1 de2 de3 de4 de5 de6 de7 de8 de9 de10 : Option Addr} {ka0 ka1 ka2 ka3 ka4 ka5 ka6 ka7 ka8 ka9 ka10 : Option Value} {kb0 kb1 kb2 kb3 kb4 kb5 kb6 kb7 kb8 kb9 kb10 : Option Value} {kc0 kc1 kc2 kc3 kc4 kc5 kc6 kc7 kc8 kc9 kc10 : Option Value} {kd0 kd1 kd2 kd3 kd4 kd5 kd6 kd7 kd8 kd9 kd10 : Option Value} {ke0 ke1 ke2 ke3 ke4 ke5 ke6 ke7 ke8 ke9 ke10 : Option Value}
    (xG : PySem.W.nsIn K mainGlobals "gcd" = some (some (.builtin "math.gcd")))
    (aPO : PySem.W.nsIn K mainGlobals "POINTS" = some (some (.ref PO)))
    (lPO : K.lookup PO = some ⟨.type "dict", none, .dict esP nPO, #[]⟩)
    (klP : PySem.W.KeysLit w.params esP.toList)
    (aEN : PySem.W.nsIn K mainGlobals "ENDS" = some (some (.ref EA)))
    (lEN : K.lookup EA = some ⟨.type "tuple", odEN, .seq #[.str "zero" tk1, .str "top" tk2, .str "bottom" tk3, .str "done" tk4] nEN, slEN⟩)
    (aLO : PySem.W.nsIn K mainGlobals "LONGEST" = some (some (.int 400 tLO)))
    (aDE : PySem.W.nsIn K mainGlobals "DEEPEST" = some (some (.int 18 tDE)))
    (dtpart : PySem.W.nsIn K PO "part" = some (some (.ref tpart)))
    (ltpart : K.lookup tpart = some ⟨.type "tuple", odtpart, .seq #[.ref tpart0, .ref tpart1, .ref tpart2, .ref tpart3, .ref tpart4] ntpart, sltpart⟩)
    (ltpart0 : K.lookup tpart0 = some ⟨.type "tuple", odtpart0, .seq #[.str "0" utpart0, .str "zero" vtpart0] ntpart0, sltpart0⟩)
    (ltpart1 : K.lookup tpart1 = some ⟨.type "tuple", odtpart1, .seq #[.str "123456789" utpart1, .str "top" vtpart1] ntpart1, sltpart1⟩)
    (ltpart2 : K.lookup tpart2 = some ⟨.type "tuple", odtpart2, .seq #[.str "-" utpart2, .str "minus" vtpart2] ntpart2, sltpart2⟩)
    (ltpart3 : K.lookup tpart3 = some ⟨.type "tuple", odtpart3, .seq #[.str "abcd" utpart3, .str "done" vtpart3] ntpart3, sltpart3⟩)
    (ltpart4 : K.lookup tpart4 = some ⟨.type "tuple", odtpart4, .seq #[.str "(" utpart4, .str "part" vtpart4] ntpart4, sltpart4⟩)
    (dtminus : PySem.W.nsIn K PO "minus" = some (some (.ref tminus)))
    (ltminus : K.lookup tminus = some ⟨.type "tuple", odtminus, .seq #[.ref tminus0] ntminus, sltminus⟩)
    (ltminus0 : K.lookup tminus0 = some ⟨.type "tuple", odtminus0, .seq #[.str "123456789" utminus0, .str "top" vtminus0] ntminus0, sltminus0⟩)
    (dtzero : PySem.W.nsIn K PO "zero" = some (some (.ref tzero)))
    (ltzero : K.lookup tzero = some ⟨.type "tuple", odtzero, .seq #[.ref tzero0, .ref tzero1, .ref tzero2] ntzero, sltzero⟩)
    (ltzero0 : K.lookup tzero0 = some ⟨.type "tuple", odtzero0, .seq #[.str "/" utzero0, .str "slash" vtzero0] ntzero0, sltzero0⟩)
    (ltzero1 : K.lookup tzero1 = some ⟨.type "tuple", odtzero1, .seq #[.str "+." utzero1, .str "part" vtzero1] ntzero1, sltzero1⟩)
    (ltzero2 : K.lookup tzero2 = some ⟨.type "tuple", odtzero2, .seq #[.str "*)" utzero2, .str "done" vtzero2] ntzero2, sltzero2⟩)
    (dttop : PySem.W.nsIn K PO "top" = some (some (.ref ttop)))
    (lttop : K.lookup ttop = some ⟨.type "tuple", odttop, .seq #[.ref ttop0, .ref ttop1, .ref ttop2, .ref ttop3] nttop, slttop⟩)
    (lttop0 : K.lookup ttop0 = some ⟨.type "tuple", odttop0, .seq #[.str "0123456789" uttop0, .str "top" vttop0] nttop0, slttop0⟩)
    (lttop1 : K.lookup ttop1 = some ⟨.type "tuple", odttop1, .seq #[.str "/" uttop1, .str "slash" vttop1] nttop1, slttop1⟩)
    (lttop2 : K.lookup ttop2 = some ⟨.type "tuple", odttop2, .seq #[.str "+." uttop2, .str "part" vttop2] nttop2, slttop2⟩)
    (lttop3 : K.lookup ttop3 = some ⟨.type "tuple", odttop3, .seq #[.str "*)" uttop3, .str "done" vttop3] nttop3, slttop3⟩)
    (dtslash : PySem.W.nsIn K PO "slash" = some (some (.ref tslash)))
    (ltslash : K.lookup tslash = some ⟨.type "tuple", odtslash, .seq #[.ref tslash0] ntslash, sltslash⟩)
    (ltslash0 : K.lookup tslash0 = some ⟨.type "tuple", odtslash0, .seq #[.str "123456789" utslash0, .str "bottom" vtslash0] ntslash0, sltslash0⟩)
    (dtbottom : PySem.W.nsIn K PO "bottom" = some (some (.ref tbottom)))
    (ltbottom : K.lookup tbottom = some ⟨.type "tuple", odtbottom, .seq #[.ref tbottom0, .ref tbottom1, .ref tbottom2] ntbottom, sltbottom⟩)
    (ltbottom0 : K.lookup tbottom0 = some ⟨.type "tuple", odtbottom0, .seq #[.str "0123456789" utbottom0, .str "bottom" vtbottom0] ntbottom0, sltbottom0⟩)
    (ltbottom1 : K.lookup tbottom1 = some ⟨.type "tuple", odtbottom1, .seq #[.str "+." utbottom1, .str "part" vtbottom1] ntbottom1, sltbottom1⟩)
    (ltbottom2 : K.lookup tbottom2 = some ⟨.type "tuple", odtbottom2, .seq #[.str "*)" utbottom2, .str "done" vtbottom2] ntbottom2, sltbottom2⟩)
    (dtdone : PySem.W.nsIn K PO "done" = some (some (.ref tdone)))
    (ltdone : K.lookup tdone = some ⟨.type "tuple", odtdone, .seq #[.ref tdone0, .ref tdone1] ntdone, sltdone⟩)
    (ltdone0 : K.lookup tdone0 = some ⟨.type "tuple", odtdone0, .seq #[.str "+." utdone0, .str "part" vtdone0] ntdone0, sltdone0⟩)
    (ltdone1 : K.lookup tdone1 = some ⟨.type "tuple", odtdone1, .seq #[.str "*)" utdone1, .str "done" vtdone1] ntdone1, sltdone1⟩)
    (aE10 : PySem.W.nsIn K mainGlobals "WordError" = some (some (.ref E10)))
    (xE10 : K.lookup E10 = some (excClassObj nm10 q10 E10 N10 bs10 [.type "ValueError", .type "Exception", .type "BaseException", .type "object"] true sn10 su10 ab10 co10 de10 ka10 kb10 kc10 kd10 ke10 "ValueError.__new__"))
    (sE10 : PySem.W.findIn K (.ref E10) "__setattr__" = some (some (.builtin "object.__setattr__")))
    (kE10 : PySem.W.keepIn K (.ref E10) = true)
    (iE10 : PySem.W.findIn K (.ref E10) "__init__" = some (some (.ref fW)))
    (nE10 : PySem.W.findIn K (.ref E10) "what" = some none)
    (gE10 : PySem.W.findIn K (.ref E10) "__getattribute__" = some (some (.builtin "BaseException.__getattribute__")))
    (hE10 : PySem.W.findIn K (.ref E10) "__getattr__" = some none)
    (dE10 : PySem.W.hasDictIn K E10 = true)
    (cE10 : PySem.W.findIn K (.ref E10) "__class__" = some (some (.builtin "object.__class__")))
    (aE0 : PySem.W.nsIn K mainGlobals "BadNumber" = some (some (.ref E0)))
    (xE0 : K.lookup E0 = some (excClassObj nm0 q0 E0 N0 bs0 [.ref E10, .type "ValueError", .type "Exception", .type "BaseException", .type "object"] true sn0 su0 ab0 co0 de0 ka0 kb0 kc0 kd0 ke0 "ValueError.__new__"))
    (sE0 : PySem.W.findIn K (.ref E0) "__setattr__" = some (some (.builtin "object.__setattr__")))
    (kE0 : PySem.W.keepIn K (.ref E0) = true)
    (iE0 : PySem.W.findIn K (.ref E0) "__init__" = some (some (.ref fW)))
    (nE0 : PySem.W.findIn K (.ref E0) "what" = some none)
    (gE0 : PySem.W.findIn K (.ref E0) "__getattribute__" = some (some (.builtin "BaseException.__getattribute__")))
    (hE0 : PySem.W.findIn K (.ref E0) "__getattr__" = some none)
    (dE0 : PySem.W.hasDictIn K E0 = true)
    (cE0 : PySem.W.findIn K (.ref E0) "__class__" = some (some (.builtin "object.__class__")))
    (aE1 : PySem.W.nsIn K mainGlobals "BadMachine" = some (some (.ref E1)))
    (xE1 : K.lookup E1 = some (excClassObj nm1 q1 E1 N1 bs1 [.ref E10, .type "ValueError", .type "Exception", .type "BaseException", .type "object"] true sn1 su1 ab1 co1 de1 ka1 kb1 kc1 kd1 ke1 "ValueError.__new__"))
    (sE1 : PySem.W.findIn K (.ref E1) "__setattr__" = some (some (.builtin "object.__setattr__")))
    (kE1 : PySem.W.keepIn K (.ref E1) = true)
    (iE1 : PySem.W.findIn K (.ref E1) "__init__" = some (some (.ref fW)))
    (nE1 : PySem.W.findIn K (.ref E1) "what" = some none)
    (gE1 : PySem.W.findIn K (.ref E1) "__getattribute__" = some (some (.builtin "BaseException.__getattribute__")))
    (hE1 : PySem.W.findIn K (.ref E1) "__getattr__" = some none)
    (dE1 : PySem.W.hasDictIn K E1 = true)
    (cE1 : PySem.W.findIn K (.ref E1) "__class__" = some (some (.builtin "object.__class__")))
    (aE2 : PySem.W.nsIn K mainGlobals "BadWord" = some (some (.ref E2)))
    (xE2 : K.lookup E2 = some (excClassObj nm2 q2 E2 N2 bs2 [.ref E10, .type "ValueError", .type "Exception", .type "BaseException", .type "object"] true sn2 su2 ab2 co2 de2 ka2 kb2 kc2 kd2 ke2 "ValueError.__new__"))
    (sE2 : PySem.W.findIn K (.ref E2) "__setattr__" = some (some (.builtin "object.__setattr__")))
    (kE2 : PySem.W.keepIn K (.ref E2) = true)
    (iE2 : PySem.W.findIn K (.ref E2) "__init__" = some (some (.ref fW)))
    (nE2 : PySem.W.findIn K (.ref E2) "what" = some none)
    (gE2 : PySem.W.findIn K (.ref E2) "__getattribute__" = some (some (.builtin "BaseException.__getattribute__")))
    (hE2 : PySem.W.findIn K (.ref E2) "__getattr__" = some none)
    (dE2 : PySem.W.hasDictIn K E2 = true)
    (cE2 : PySem.W.findIn K (.ref E2) "__class__" = some (some (.builtin "object.__class__")))
    (aE3 : PySem.W.nsIn K mainGlobals "BadStar" = some (some (.ref E3)))
    (xE3 : K.lookup E3 = some (excClassObj nm3 q3 E3 N3 bs3 [.ref E10, .type "ValueError", .type "Exception", .type "BaseException", .type "object"] true sn3 su3 ab3 co3 de3 ka3 kb3 kc3 kd3 ke3 "ValueError.__new__"))
    (sE3 : PySem.W.findIn K (.ref E3) "__setattr__" = some (some (.builtin "object.__setattr__")))
    (kE3 : PySem.W.keepIn K (.ref E3) = true)
    (iE3 : PySem.W.findIn K (.ref E3) "__init__" = some (some (.ref fW)))
    (nE3 : PySem.W.findIn K (.ref E3) "what" = some none)
    (gE3 : PySem.W.findIn K (.ref E3) "__getattribute__" = some (some (.builtin "BaseException.__getattribute__")))
    (hE3 : PySem.W.findIn K (.ref E3) "__getattr__" = some none)
    (dE3 : PySem.W.hasDictIn K E3 = true)
    (cE3 : PySem.W.findIn K (.ref E3) "__class__" = some (some (.builtin "object.__class__")))
    (aE4 : PySem.W.nsIn K mainGlobals "BadText" = some (some (.ref E4)))
    (xE4 : K.lookup E4 = some (excClassObj nm4 q4 E4 N4 bs4 [.ref E10, .type "ValueError", .type "Exception", .type "BaseException", .type "object"] true sn4 su4 ab4 co4 de4 ka4 kb4 kc4 kd4 ke4 "ValueError.__new__"))
    (sE4 : PySem.W.findIn K (.ref E4) "__setattr__" = some (some (.builtin "object.__setattr__")))
    (kE4 : PySem.W.keepIn K (.ref E4) = true)
    (iE4 : PySem.W.findIn K (.ref E4) "__init__" = some (some (.ref fW)))
    (nE4 : PySem.W.findIn K (.ref E4) "what" = some none)
    (gE4 : PySem.W.findIn K (.ref E4) "__getattribute__" = some (some (.builtin "BaseException.__getattribute__")))
    (hE4 : PySem.W.findIn K (.ref E4) "__getattr__" = some none)
    (dE4 : PySem.W.hasDictIn K E4 = true)
    (cE4 : PySem.W.findIn K (.ref E4) "__class__" = some (some (.builtin "object.__class__")))
    (aE5 : PySem.W.nsIn K mainGlobals "BadPaper" = some (some (.ref E5)))
    (xE5 : K.lookup E5 = some (excClassObj nm5 q5 E5 N5 bs5 [.ref E10, .type "ValueError", .type "Exception", .type "BaseException", .type "object"] true sn5 su5 ab5 co5 de5 ka5 kb5 kc5 kd5 ke5 "ValueError.__new__"))
    (sE5 : PySem.W.findIn K (.ref E5) "__setattr__" = some (some (.builtin "object.__setattr__")))
    (kE5 : PySem.W.keepIn K (.ref E5) = true)
    (iE5 : PySem.W.findIn K (.ref E5) "__init__" = some (some (.ref fW)))
    (nE5 : PySem.W.findIn K (.ref E5) "what" = some none)
    (gE5 : PySem.W.findIn K (.ref E5) "__getattribute__" = some (some (.builtin "BaseException.__getattribute__")))
    (hE5 : PySem.W.findIn K (.ref E5) "__getattr__" = some none)
    (dE5 : PySem.W.hasDictIn K E5 = true)
    (cE5 : PySem.W.findIn K (.ref E5) "__class__" = some (some (.builtin "object.__class__")))
    (aE6 : PySem.W.nsIn K mainGlobals "BadDeed" = some (some (.ref E6)))
    (xE6 : K.lookup E6 = some (excClassObj nm6 q6 E6 N6 bs6 [.ref E10, .type "ValueError", .type "Exception", .type "BaseException", .type "object"] true sn6 su6 ab6 co6 de6 ka6 kb6 kc6 kd6 ke6 "ValueError.__new__"))
    (sE6 : PySem.W.findIn K (.ref E6) "__setattr__" = some (some (.builtin "object.__setattr__")))
    (kE6 : PySem.W.keepIn K (.ref E6) = true)
    (iE6 : PySem.W.findIn K (.ref E6) "__init__" = some (some (.ref fW)))
    (nE6 : PySem.W.findIn K (.ref E6) "what" = some none)
    (gE6 : PySem.W.findIn K (.ref E6) "__getattribute__" = some (some (.builtin "BaseException.__getattribute__")))
    (hE6 : PySem.W.findIn K (.ref E6) "__getattr__" = some none)
    (dE6 : PySem.W.hasDictIn K E6 = true)
    (cE6 : PySem.W.findIn K (.ref E6) "__class__" = some (some (.builtin "object.__class__")))
    (aE7 : PySem.W.nsIn K mainGlobals "TooMany" = some (some (.ref E7)))
    (xE7 : K.lookup E7 = some (excClassObj nm7 q7 E7 N7 bs7 [.ref E10, .type "ValueError", .type "Exception", .type "BaseException", .type "object"] true sn7 su7 ab7 co7 de7 ka7 kb7 kc7 kd7 ke7 "ValueError.__new__"))
    (sE7 : PySem.W.findIn K (.ref E7) "__setattr__" = some (some (.builtin "object.__setattr__")))
    (kE7 : PySem.W.keepIn K (.ref E7) = true)
    (iE7 : PySem.W.findIn K (.ref E7) "__init__" = some (some (.ref fW)))
    (nE7 : PySem.W.findIn K (.ref E7) "what" = some none)
    (gE7 : PySem.W.findIn K (.ref E7) "__getattribute__" = some (some (.builtin "BaseException.__getattribute__")))
    (hE7 : PySem.W.findIn K (.ref E7) "__getattr__" = some none)
    (dE7 : PySem.W.hasDictIn K E7 = true)
    (cE7 : PySem.W.findIn K (.ref E7) "__class__" = some (some (.builtin "object.__class__")))
    (aE8 : PySem.W.nsIn K mainGlobals "Unknown" = some (some (.ref E8)))
    (xE8 : K.lookup E8 = some (excClassObj nm8 q8 E8 N8 bs8 [.ref E10, .type "ValueError", .type "Exception", .type "BaseException", .type "object"] true sn8 su8 ab8 co8 de8 ka8 kb8 kc8 kd8 ke8 "ValueError.__new__"))
    (sE8 : PySem.W.findIn K (.ref E8) "__setattr__" = some (some (.builtin "object.__setattr__")))
    (kE8 : PySem.W.keepIn K (.ref E8) = true)
    (iE8 : PySem.W.findIn K (.ref E8) "__init__" = some (some (.ref fW)))
    (nE8 : PySem.W.findIn K (.ref E8) "what" = some none)
    (gE8 : PySem.W.findIn K (.ref E8) "__getattribute__" = some (some (.builtin "BaseException.__getattribute__")))
    (hE8 : PySem.W.findIn K (.ref E8) "__getattr__" = some none)
    (dE8 : PySem.W.hasDictIn K E8 = true)
    (cE8 : PySem.W.findIn K (.ref E8) "__class__" = some (some (.builtin "object.__class__")))
    (aE9 : PySem.W.nsIn K mainGlobals "Taken" = some (some (.ref E9)))
    (xE9 : K.lookup E9 = some (excClassObj nm9 q9 E9 N9 bs9 [.ref E10, .type "ValueError", .type "Exception", .type "BaseException", .type "object"] true sn9 su9 ab9 co9 de9 ka9 kb9 kc9 kd9 ke9 "ValueError.__new__"))
    (sE9 : PySem.W.findIn K (.ref E9) "__setattr__" = some (some (.builtin "object.__setattr__")))
    (kE9 : PySem.W.keepIn K (.ref E9) = true)
    (iE9 : PySem.W.findIn K (.ref E9) "__init__" = some (some (.ref fW)))
    (nE9 : PySem.W.findIn K (.ref E9) "what" = some none)
    (gE9 : PySem.W.findIn K (.ref E9) "__getattribute__" = some (some (.builtin "BaseException.__getattribute__")))
    (hE9 : PySem.W.findIn K (.ref E9) "__getattr__" = some none)
    (dE9 : PySem.W.hasDictIn K E9 = true)
    (cE9 : PySem.W.findIn K (.ref E9) "__class__" = some (some (.builtin "object.__class__")))
    (tW : PySem.W.typeIn K (.ref fW) = some (.type "function"))
    (lW : K.lookup fW = some ⟨ocW, odW, .func (PySem.W.fnOf "__init__" "WordError.__init__" (defArgs sWi) (defBody sWi) (defScope sWi) (.ref TW) kVW dcW pmW anW cdW ctW), slW⟩)
    (cW : PySem.W.codeIn K cdW "WordError.__init__" = true)
    (kW : PySem.W.keepIn K (.ref fW) = true)
    (lTW : K.lookup TW = some ⟨ocU, odU, .seq #[.none] nU, slU⟩)
    (nd : ([E0, E1, E2, E3, E4, E5, E6, E7, E8, E9, E10] : List Addr).Nodup)
    (aC : PySem.W.nsIn K mainGlobals "Ratio" = some (some (.ref C)))
    (pgC : PySem.W.plainGet K C Str.empty = true)
    (hdC : PySem.W.hasDictIn K C = true)
    (poC : PySem.W.plainOver K C = true)
    (saC : PySem.W.findIn K (.ref C) "__setattr__" = some (some (.builtin "object.__setattr__")))
    (nCtop : PySem.W.findIn K (.ref C) "top" = some none)
    (nCbottom : PySem.W.findIn K (.ref C) "bottom" = some none)
    (mkC : PySem.W.makesIn K C = true)
    (kcC : PySem.W.keepIn K (.ref C) = true)
    (xaC : PySem.W.findIn K (.ref C) "__class__" = some (some (.builtin "object.__class__")))
    (xmC : PySem.W.mroIn K C (.type "object") = some true)
    (aI : PySem.W.findIn K (.ref C) "__init__" = some (some (.ref fI)))
    (iI : PySem.W.isFn K (.ref fI) = true)
    (lI : K.lookup fI = some ⟨ocI, odI, .func (PySem.W.fnOf "__init__" "Ratio.__init__" (defArgs sInit) (defBody sInit) (defScope sInit) (.ref TT) kVI dcI pmI anI cdI ctI), slI⟩)
    (cI : PySem.W.codeIn K cdI "Ratio.__init__" = true)
    (kI : PySem.W.keepIn K (.ref fI) = true)
    (lT : K.lookup TT = some ⟨ocT, odT, .seq #[.int 1 tkT] nT0, slT⟩)
    (xn : PySem.W.specialIn K (.builtin "object.__class__") "__get__" = some (some (.builtin "getset_descriptor.__get__")))
    (xt : PySem.W.takesIn K (.builtin "object.__class__") = some true)
    (aFe : PySem.W.nsIn K mainGlobals "_law_feed" = some (some (.ref fFe)))
    (lFe : K.lookup fFe = some ⟨ocFe, odFe, .func (PySem.W.fnOf "_law_feed" "_law_feed" (defArgs sFeed) (defBody sFeed) (defScope sFeed) .none kVFe dcFe pmFe anFe cdFe ctFe), slFe⟩)
    (cFe : PySem.W.codeIn K cdFe "_law_feed" = true)
    (kFe : PySem.W.keepIn K (.ref fFe) = true)
    (aDr : PySem.W.nsIn K mainGlobals "_law_draw" = some (some (.ref fDr)))
    (lDr : K.lookup fDr = some ⟨ocDr, odDr, .func (PySem.W.fnOf "_law_draw" "_law_draw" (defArgs sDraw) (defBody sDraw) (defScope sDraw) .none kVDr dcDr pmDr anDr cdDr ctDr), slDr⟩)
    (cDr : PySem.W.codeIn K cdDr "_law_draw" = true)
    (kDr : PySem.W.keepIn K (.ref fDr) = true)
    (aGr : PySem.W.nsIn K mainGlobals "_law_great" = some (some (.ref fGr)))
    (lGr : K.lookup fGr = some ⟨ocGr, odGr, .func (PySem.W.fnOf "_law_great" "_law_great" (defArgs sGreat) (defBody sGreat) (defScope sGreat) .none kVGr dcGr pmGr anGr cdGr ctGr), slGr⟩)
    (cGr : PySem.W.codeIn K cdGr "_law_great" = true)
    (kGr : PySem.W.keepIn K (.ref fGr) = true)
    (aPa : PySem.W.nsIn K mainGlobals "_law_pair" = some (some (.ref fPa)))
    (lPa : K.lookup fPa = some ⟨ocPa, odPa, .func (PySem.W.fnOf "_law_pair" "_law_pair" (defArgs sPair) (defBody sPair) (defScope sPair) .none kVPa dcPa pmPa anPa cdPa ctPa), slPa⟩)
    (cPa : PySem.W.codeIn K cdPa "_law_pair" = true)
    (kPa : PySem.W.keepIn K (.ref fPa) = true)
    (aIs : PySem.W.nsIn K mainGlobals "_law_is_integer" = some (some (.ref fIs)))
    (lIs : K.lookup fIs = some ⟨ocIs, odIs, .func (PySem.W.fnOf "_law_is_integer" "_law_is_integer" (defArgs sIsInt) (defBody sIsInt) (defScope sIsInt) .none kVIs dcIs pmIs anIs cdIs ctIs), slIs⟩)
    (cIs : PySem.W.codeIn K cdIs "_law_is_integer" = true)
    (kIs : PySem.W.keepIn K (.ref fIs) = true)
    (aSa : PySem.W.nsIn K mainGlobals "_law_same" = some (some (.ref fSa)))
    (lSa : K.lookup fSa = some ⟨ocSa, odSa, .func (PySem.W.fnOf "_law_same" "_law_same" (defArgs sSame) (defBody sSame) (defScope sSame) .none kVSa dcSa pmSa anSa cdSa ctSa), slSa⟩)
    (cSa : PySem.W.codeIn K cdSa "_law_same" = true)
    (kSa : PySem.W.keepIn K (.ref fSa) = true)
    (aMk : PySem.W.nsIn K mainGlobals "_law_marks" = some (some (.ref fMk)))
    (lMk : K.lookup fMk = some ⟨ocMk, odMk, .func (PySem.W.fnOf "_law_marks" "_law_marks" (defArgs sMarks) (defBody sMarks) (defScope sMarks) .none kVMk dcMk pmMk anMk cdMk ctMk), slMk⟩)
    (cMk : PySem.W.codeIn K cdMk "_law_marks" = true)
    (kMk : PySem.W.keepIn K (.ref fMk) = true)
    (aDu : PySem.W.nsIn K mainGlobals "_law_due_marks" = some (some (.ref fDu)))
    (lDu : K.lookup fDu = some ⟨ocDu, odDu, .func (PySem.W.fnOf "_law_due_marks" "_law_due_marks" (defArgs sDue) (defBody sDue) (defScope sDue) .none kVDu dcDu pmDu anDu cdDu ctDu), slDu⟩)
    (cDu : PySem.W.codeIn K cdDu "_law_due_marks" = true)
    (kDu : PySem.W.keepIn K (.ref fDu) = true)
    (aLf : PySem.W.nsIn K mainGlobals "_law_leaf" = some (some (.ref fLf)))
    (lLf : K.lookup fLf = some ⟨ocLf, odLf, .func (PySem.W.fnOf "_law_leaf" "_law_leaf" (defArgs sLeaf) (defBody sLeaf) (defScope sLeaf) .none kVLf dcLf pmLf anLf cdLf ctLf), slLf⟩)
    (cLf : PySem.W.codeIn K cdLf "_law_leaf" = true)
    (kLf : PySem.W.keepIn K (.ref fLf) = true)
    (aJo : PySem.W.nsIn K mainGlobals "_law_joined" = some (some (.ref fJo)))
    (lJo : K.lookup fJo = some ⟨ocJo, odJo, .func (PySem.W.fnOf "_law_joined" "_law_joined" (defArgs sJoin) (defBody sJoin) (defScope sJoin) .none kVJo dcJo pmJo anJo cdJo ctJo), slJo⟩)
    (cJo : PySem.W.codeIn K cdJo "_law_joined" = true)
    (kJo : PySem.W.keepIn K (.ref fJo) = true)
    (aBu : PySem.W.nsIn K mainGlobals "_law_bush" = some (some (.ref fBu)))
    (lBu : K.lookup fBu = some ⟨ocBu, odBu, .func (PySem.W.fnOf "_law_bush" "_law_bush" (defArgs sBush) (defBody sBush) (defScope sBush) .none kVBu dcBu pmBu anBu cdBu ctBu), slBu⟩)
    (cBu : PySem.W.codeIn K cdBu "_law_bush" = true)
    (kBu : PySem.W.keepIn K (.ref fBu) = true)
    (aCh : PySem.W.nsIn K mainGlobals "_law_chain" = some (some (.ref fCh)))
    (lCh : K.lookup fCh = some ⟨ocCh, odCh, .func (PySem.W.fnOf "_law_chain" "_law_chain" (defArgs sChain) (defBody sChain) (defScope sChain) .none kVCh dcCh pmCh anCh cdCh ctCh), slCh⟩)
    (cCh : PySem.W.codeIn K cdCh "_law_chain" = true)
    (kCh : PySem.W.keepIn K (.ref fCh) = true)
    (aWi : PySem.W.nsIn K mainGlobals "_law_wide_term" = some (some (.ref fWi)))
    (lWi : K.lookup fWi = some ⟨ocWi, odWi, .func (PySem.W.fnOf "_law_wide_term" "_law_wide_term" (defArgs sWide) (defBody sWide) (defScope sWide) .none kVWi dcWi pmWi anWi cdWi ctWi), slWi⟩)
    (cWi : PySem.W.codeIn K cdWi "_law_wide_term" = true)
    (kWi : PySem.W.keepIn K (.ref fWi) = true)
    (aTe : PySem.W.nsIn K mainGlobals "_law_term" = some (some (.ref fTe)))
    (lTe : K.lookup fTe = some ⟨ocTe, odTe, .func (PySem.W.fnOf "_law_term" "_law_term" (defArgs sTerm) (defBody sTerm) (defScope sTerm) .none kVTe dcTe pmTe anTe cdTe ctTe), slTe⟩)
    (cTe : PySem.W.codeIn K cdTe "_law_term" = true)
    (kTe : PySem.W.keepIn K (.ref fTe) = true)
    (aSt : PySem.W.nsIn K mainGlobals "_law_same_term" = some (some (.ref fSt)))
    (lSt : K.lookup fSt = some ⟨ocSt, odSt, .func (PySem.W.fnOf "_law_same_term" "_law_same_term" (defArgs sSameT) (defBody sSameT) (defScope sSameT) .none kVSt dcSt pmSt anSt cdSt ctSt), slSt⟩)
    (cSt : PySem.W.codeIn K cdSt "_law_same_term" = true)
    (kSt : PySem.W.keepIn K (.ref fSt) = true)
    (aFo : PySem.W.nsIn K mainGlobals "_law_following" = some (some (.ref fFo)))
    (lFo : K.lookup fFo = some ⟨ocFo, odFo, .func (PySem.W.fnOf "_law_following" "_law_following" (defArgs sFo) (defBody sFo) (defScope sFo) .none kVFo dcFo pmFo anFo cdFo ctFo), slFo⟩)
    (cFo : PySem.W.codeIn K cdFo "_law_following" = true)
    (kFo : PySem.W.keepIn K (.ref fFo) = true)
    (aPl : PySem.W.nsIn K mainGlobals "_law_place" = some (some (.ref fPl)))
    (lPl : K.lookup fPl = some ⟨ocPl, odPl, .func (PySem.W.fnOf "_law_place" "_law_place" (defArgs sPl) (defBody sPl) (defScope sPl) .none kVPl dcPl pmPl anPl cdPl ctPl), slPl⟩)
    (cPl : PySem.W.codeIn K cdPl "_law_place" = true)
    (kPl : PySem.W.keepIn K (.ref fPl) = true)
    (aNx : PySem.W.nsIn K mainGlobals "_next_point" = some (some (.ref fNx)))
    (lNx : K.lookup fNx = some ⟨ocNx, odNx, .func (PySem.W.fnOf "_next_point" "_next_point" (defArgs sNx) (defBody sNx) (defScope sNx) .none kVNx dcNx pmNx anNx cdNx ctNx), slNx⟩)
    (cNx : PySem.W.codeIn K cdNx "_next_point" = true)
    (kNx : PySem.W.keepIn K (.ref fNx) = true)
    (aWp : PySem.W.nsIn K mainGlobals "_wrong_place" = some (some (.ref fWp)))
    (lWp : K.lookup fWp = some ⟨ocWp, odWp, .func (PySem.W.fnOf "_wrong_place" "_wrong_place" (defArgs sWp) (defBody sWp) (defScope sWp) .none kVWp dcWp pmWp anWp cdWp ctWp), slWp⟩)
    (cWp : PySem.W.codeIn K cdWp "_wrong_place" = true)
    (kWp : PySem.W.keepIn K (.ref fWp) = true)
    (aTk : PySem.W.nsIn K mainGlobals "_tokens" = some (some (.ref fTk)))
    (lTk : K.lookup fTk = some ⟨ocTk, odTk, .func (PySem.W.fnOf "_tokens" "_tokens" (defArgs sTk) (defBody sTk) (defScope sTk) .none kVTk dcTk pmTk anTk cdTk ctTk), slTk⟩)
    (cTk : PySem.W.codeIn K cdTk "_tokens" = true)
    (kTk : PySem.W.keepIn K (.ref fTk) = true)
    (aTw : PySem.W.nsIn K mainGlobals "_two" = some (some (.ref fTw)))
    (lTw : K.lookup fTw = some ⟨ocTw, odTw, .func (PySem.W.fnOf "_two" "_two" (defArgs sTw) (defBody sTw) (defScope sTw) .none kVTw dcTw pmTw anTw cdTw ctTw), slTw⟩)
    (cTw : PySem.W.codeIn K cdTw "_two" = true)
    (kTw : PySem.W.keepIn K (.ref fTw) = true)
    (aLe : PySem.W.nsIn K mainGlobals "_leaf" = some (some (.ref fLe)))
    (lLe : K.lookup fLe = some ⟨ocLe, odLe, .func (PySem.W.fnOf "_leaf" "_leaf" (defArgs sLe) (defBody sLe) (defScope sLe) .none kVLe dcLe pmLe anLe cdLe ctLe), slLe⟩)
    (cLe : PySem.W.codeIn K cdLe "_leaf" = true)
    (kLe : PySem.W.keepIn K (.ref fLe) = true)
    (aBt : PySem.W.nsIn K mainGlobals "_built" = some (some (.ref fBt)))
    (lBt : K.lookup fBt = some ⟨ocBt, odBt, .func (PySem.W.fnOf "_built" "_built" (defArgs sBt) (defBody sBt) (defScope sBt) .none kVBt dcBt pmBt anBt cdBt ctBt), slBt⟩)
    (cBt : PySem.W.codeIn K cdBt "_built" = true)
    (kBt : PySem.W.keepIn K (.ref fBt) = true)
    (aRs : PySem.W.nsIn K mainGlobals "read_sum" = some (some (.ref fRs)))
    (lRs : K.lookup fRs = some ⟨ocRs, odRs, .func (PySem.W.fnOf "read_sum" "read_sum" (defArgs sRs) (defBody sRs) (defScope sRs) .none kVRs dcRs pmRs anRs cdRs ctRs), slRs⟩)
    (cRs : PySem.W.codeIn K cdRs "read_sum" = true)
    (kRs : PySem.W.keepIn K (.ref fRs) = true)
    (aAs : PySem.W.nsIn K mainGlobals "_law_asked" = some (some (.ref fAs)))
    (lAs : K.lookup fAs = some ⟨ocAs, odAs, .func (PySem.W.fnOf "_law_asked" "_law_asked" (defArgs sAs) (defBody sAs) (defScope sAs) .none kVAs dcAs pmAs anAs cdAs ctAs), slAs⟩)
    (cAs : PySem.W.codeIn K cdAs "_law_asked" = true)
    (kAs : PySem.W.keepIn K (.ref fAs) = true)
    (aLn : PySem.W.nsIn K mainGlobals "_law_loose_number" = some (some (.ref fLn)))
    (lLn : K.lookup fLn = some ⟨ocLn, odLn, .func (PySem.W.fnOf "_law_loose_number" "_law_loose_number" (defArgs sLn) (defBody sLn) (defScope sLn) .none kVLn dcLn pmLn anLn cdLn ctLn), slLn⟩)
    (cLn : PySem.W.codeIn K cdLn "_law_loose_number" = true)
    (kLn : PySem.W.keepIn K (.ref fLn) = true)
    (aLp : PySem.W.nsIn K mainGlobals "_law_loose_part" = some (some (.ref fLp)))
    (lLp : K.lookup fLp = some ⟨ocLp, odLp, .func (PySem.W.fnOf "_law_loose_part" "_law_loose_part" (defArgs sLp) (defBody sLp) (defScope sLp) .none kVLp dcLp pmLp anLp cdLp ctLp), slLp⟩)
    (cLp : PySem.W.codeIn K cdLp "_law_loose_part" = true)
    (kLp : PySem.W.keepIn K (.ref fLp) = true)
    (aLo : PySem.W.nsIn K mainGlobals "_law_loose" = some (some (.ref fLo)))
    (lLo : K.lookup fLo = some ⟨ocLo, odLo, .func (PySem.W.fnOf "_law_loose" "_law_loose" (defArgs sLo) (defBody sLo) (defScope sLo) .none kVLo dcLo pmLo anLo cdLo ctLo), slLo⟩)
    (cLo : PySem.W.codeIn K cdLo "_law_loose" = true)
    (kLo : PySem.W.keepIn K (.ref fLo) = true)
    (aLg : PySem.W.nsIn K mainGlobals "_law_long_number" = some (some (.ref fLg)))
    (lLg : K.lookup fLg = some ⟨ocLg, odLg, .func (PySem.W.fnOf "_law_long_number" "_law_long_number" (defArgs sLg) (defBody sLg) (defScope sLg) .none kVLg dcLg pmLg anLg cdLg ctLg), slLg⟩)
    (cLg : PySem.W.codeIn K cdLg "_law_long_number" = true)
    (kLg : PySem.W.keepIn K (.ref fLg) = true)
    (aLl : PySem.W.nsIn K mainGlobals "_law_long" = some (some (.ref fLl)))
    (lLl : K.lookup fLl = some ⟨ocLl, odLl, .func (PySem.W.fnOf "_law_long" "_law_long" (defArgs sLl) (defBody sLl) (defScope sLl) .none kVLl dcLl pmLl anLl cdLl ctLl), slLl⟩)
    (cLl : PySem.W.codeIn K cdLl "_law_long" = true)
    (kLl : PySem.W.keepIn K (.ref fLl) = true)
    (aBl : PySem.W.nsIn K mainGlobals "_law_built" = some (some (.ref fBl)))
    (lBl : K.lookup fBl = some ⟨ocBl, odBl, .func (PySem.W.fnOf "_law_built" "_law_built" (defArgs sBl) (defBody sBl) (defScope sBl) .none kVBl dcBl pmBl anBl cdBl ctBl), slBl⟩)
    (cBl : PySem.W.codeIn K cdBl "_law_built" = true)
    (kBl : PySem.W.keepIn K (.ref fBl) = true)
    (aL : PySem.W.nsIn K mainGlobals "law" = some (some (.ref fL)))
    (lL : K.lookup fL = some ⟨ocL, odL, .func (PySem.W.fnOf "law" "law" (defArgs sLaw) (defBody sLaw) (defScope sLaw) .none kVL dcL pmL anL cdL ctL), slL⟩)
    (cL : PySem.W.codeIn K cdL "law" = true)
    (kL : PySem.W.keepIn K (.ref fL) = true)
    (z_abs : PySem.W.nsIn K mainGlobals "abs" = some none)
    (z_len : PySem.W.nsIn K mainGlobals "len" = some none)
    (z_int : PySem.W.nsIn K mainGlobals "int" = some none)
    (z_max : PySem.W.nsIn K mainGlobals "max" = some none)
    (z_range : PySem.W.nsIn K mainGlobals "range" = some none)
    (z_isinstance : PySem.W.nsIn K mainGlobals "isinstance" = some none)
    (z_bool : PySem.W.nsIn K mainGlobals "bool" = some none)
    (z_tuple : PySem.W.nsIn K mainGlobals "tuple" = some none)
    (z_min : PySem.W.nsIn K mainGlobals "min" = some none)
    (z_enumerate : PySem.W.nsIn K mainGlobals "enumerate" = some none)
    (z_str : PySem.W.nsIn K mainGlobals "str" = some none)
    (z_ValueError : PySem.W.nsIn K mainGlobals "ValueError" = some none)
    : ∃ fd : FuncData, (∀ (s : Shared) (v : Value), BindsTo s fd ⟨[v], []⟩ [("script", v)]) ∧ ∀ base : Heap, K.In base → base.Ns mainGlobals mg → FnOk l.prog w K mg base CX0 125 fa fd ["script"] (spLaw K) := by
  have e := hfa.symm.trans (PySem.W.mg_of X G aL)
  cases e
  have T : TxtL mg := ⟨PySem.W.mg_none_of X G z_abs, PySem.W.mg_none_of X G z_len, PySem.W.mg_none_of X G z_int, PySem.W.mg_none_of X G z_max, PySem.W.mg_none_of X G z_range, PySem.W.mg_none_of X G z_isinstance, PySem.W.mg_none_of X G z_bool⟩
  have xeC : PySem.W.kitOne K (.ref C) (.ref C) = some true := by
    unfold PySem.W.kitOne
    rw [if_pos (beq_self_eq_true _)]
  have icC : C8.InsC K C := ⟨⟨pgC, hdC, poC, saC⟩, xaC, xn, xt, xmC, xeC⟩
  obtain ⟨fdI, FI⟩ : ∃ fd, FunD K "__init__" "Ratio.__init__" (defArgs sInit) (defBody sInit) (defScope sInit) [.int 1] [] fI fd := ⟨_, ⟨ocI, odI, .ref TT, kVI, dcI, pmI, anI, cdI, ctI, slI, rfl, lI, cI, .inr ⟨(fun z => nomatch z), TT, _, [.int 1 tkT], nT0, rfl, lT, rfl, .cons ⟨tkT, rfl⟩ .nil⟩, .inl rfl⟩, kI⟩
  have bI : Binds K fdI ["self", "top", "bottom"] [] := by
    obtain ⟨ds, v, b⟩ := FI.binds1 (ps := ["self", "top", "bottom"]) 3 1 (fun z => nomatch z) rfl fun T kV doc pm an cdv ct us its hu hi => match us, its, hu, hi with | [_, _, _], [_], _, _ => ⟨_, rfl, rfl⟩
    cases v
    exact b
  have bI1 : ∃ ds, Vals [V.int 1] ds ∧ Binds K fdI ["self", "top", "bottom"] ds := FI.binds1 (ps := ["self", "top", "bottom"]) 2 0 (fun z => nomatch z) rfl fun T kV doc pm an cdv ct us its hu hi => match us, its, hu, hi with | [_, _], [_], _, _ => ⟨_, rfl, rfl⟩
  have FFe := fun_mk (st := sFeed) lFe cFe kFe
  have bFe := FFe.binds (ps := ["script"]) fun _ _ _ _ _ _ us hl => match us, hl with | [_], _ => rfl
  have mFe := PySem.W.mg_of X G aFe
  have FDr := fun_mk (st := sDraw) lDr cDr kDr
  have bDr := FDr.binds (ps := ["feed", "limit"]) fun _ _ _ _ _ _ us hl => match us, hl with | [_, _], _ => rfl
  have mDr := PySem.W.mg_of X G aDr
  have FGr := fun_mk (st := sGreat) lGr cGr kGr
  have bGr := FGr.binds (ps := ["feed", "parts"]) fun _ _ _ _ _ _ us hl => match us, hl with | [_, _], _ => rfl
  have mGr := PySem.W.mg_of X G aGr
  have FPa := fun_mk (st := sPair) lPa cPa kPa
  have bPa := FPa.binds (ps := ["above", "below"]) fun _ _ _ _ _ _ us hl => match us, hl with | [_, _], _ => rfl
  have mPa := PySem.W.mg_of X G aPa
  have FIs := fun_mk (st := sIsInt) lIs cIs kIs
  have bIs := FIs.binds (ps := ["actual"]) fun _ _ _ _ _ _ us hl => match us, hl with | [_], _ => rfl
  have mIs := PySem.W.mg_of X G aIs
  have FSa := fun_mk (st := sSame) lSa cSa kSa
  have bSa := FSa.binds (ps := ["actual", "due"]) fun _ _ _ _ _ _ us hl => match us, hl with | [_, _], _ => rfl
  have mSa := PySem.W.mg_of X G aSa
  have FMk := fun_mk (st := sMarks) lMk cMk kMk
  have bMk := FMk.binds (ps := ["e"]) fun _ _ _ _ _ _ us hl => match us, hl with | [_], _ => rfl
  have mMk := PySem.W.mg_of X G aMk
  have FDu := fun_mk (st := sDue) lDu cDu kDu
  have bDu := FDu.binds (ps := ["k"]) fun _ _ _ _ _ _ us hl => match us, hl with | [_], _ => rfl
  have mDu := PySem.W.mg_of X G aDu
  have FLf := fun_mk (st := sLeaf) lLf cLf kLf
  have bLf := FLf.binds (ps := ["feed", "wide"]) fun _ _ _ _ _ _ us hl => match us, hl with | [_, _], _ => rfl
  have mLf := PySem.W.mg_of X G aLf
  have FJo := fun_mk (st := sJoin) lJo cJo kJo
  have bJo := FJo.binds (ps := ["feed", "one", "two"]) fun _ _ _ _ _ _ us hl => match us, hl with | [_, _, _], _ => rfl
  have mJo := PySem.W.mg_of X G aJo
  have FBu := fun_mk (st := sBush) lBu cBu kBu
  have bBu := FBu.binds (ps := ["feed", "wide"]) fun _ _ _ _ _ _ us hl => match us, hl with | [_, _], _ => rfl
  have mBu := PySem.W.mg_of X G aBu
  have FCh := fun_mk (st := sChain) lCh cCh kCh
  have bCh := FCh.binds (ps := ["feed", "wide", "many"]) fun _ _ _ _ _ _ us hl => match us, hl with | [_, _, _], _ => rfl
  have mCh := PySem.W.mg_of X G aCh
  have FWi := fun_mk (st := sWide) lWi cWi kWi
  have bWi := FWi.binds (ps := ["feed", "wide"]) fun _ _ _ _ _ _ us hl => match us, hl with | [_, _], _ => rfl
  have mWi := PySem.W.mg_of X G aWi
  have FTe := fun_mk (st := sTerm) lTe cTe kTe
  have bTe := FTe.binds (ps := ["feed"]) fun _ _ _ _ _ _ us hl => match us, hl with | [_], _ => rfl
  have mTe := PySem.W.mg_of X G aTe
  have FSt := fun_mk (st := sSameT) lSt cSt kSt
  have bSt := FSt.binds (ps := ["actual", "due"]) fun _ _ _ _ _ _ us hl => match us, hl with | [_, _], _ => rfl
  have mSt := PySem.W.mg_of X G aSt
  have FFo := fun_mk (st := sFo) lFo cFo kFo
  have bFo := FFo.binds (ps := ["state", "sign", "opened"]) fun _ _ _ _ _ _ us hl => match us, hl with | [_, _, _], _ => rfl
  have mFo := PySem.W.mg_of X G aFo
  have FPl := fun_mk (st := sPl) lPl cPl kPl
  have bPl := FPl.binds (ps := ["told"]) fun _ _ _ _ _ _ us hl => match us, hl with | [_], _ => rfl
  have mPl := PySem.W.mg_of X G aPl
  have FNx := fun_mk (st := sNx) lNx cNx kNx
  have bNx := FNx.binds (ps := ["point", "sign"]) fun _ _ _ _ _ _ us hl => match us, hl with | [_, _], _ => rfl
  have mNx := PySem.W.mg_of X G aNx
  have FWp := fun_mk (st := sWp) lWp cWp kWp
  have bWp := FWp.binds (ps := ["text"]) fun _ _ _ _ _ _ us hl => match us, hl with | [_], _ => rfl
  have mWp := PySem.W.mg_of X G aWp
  have FTk := fun_mk (st := sTk) lTk cTk kTk
  have bTk := FTk.binds (ps := ["text"]) fun _ _ _ _ _ _ us hl => match us, hl with | [_], _ => rfl
  have mTk := PySem.W.mg_of X G aTk
  have FTw := fun_mk (st := sTw) lTw cTw kTw
  have bTw := FTw.binds (ps := ["kind", "one", "other"]) fun _ _ _ _ _ _ us hl => match us, hl with | [_, _, _], _ => rfl
  have mTw := PySem.W.mg_of X G aTw
  have FLe := fun_mk (st := sLe) lLe cLe kLe
  have bLe := FLe.binds (ps := ["token"]) fun _ _ _ _ _ _ us hl => match us, hl with | [_], _ => rfl
  have mLe := PySem.W.mg_of X G aLe
  have FBt := fun_mk (st := sBt) lBt cBt kBt
  have bBt := FBt.binds (ps := ["tokens"]) fun _ _ _ _ _ _ us hl => match us, hl with | [_], _ => rfl
  have mBt := PySem.W.mg_of X G aBt
  have FRs := fun_mk (st := sRs) lRs cRs kRs
  have bRs := FRs.binds (ps := ["text"]) fun _ _ _ _ _ _ us hl => match us, hl with | [_], _ => rfl
  have mRs := PySem.W.mg_of X G aRs
  have FAs := fun_mk (st := sAs) lAs cAs kAs
  have bAs := FAs.binds (ps := ["said", "term"]) fun _ _ _ _ _ _ us hl => match us, hl with | [_, _], _ => rfl
  have mAs := PySem.W.mg_of X G aAs
  have FLn := fun_mk (st := sLn) lLn cLn kLn
  have bLn := FLn.binds (ps := ["feed", "one"]) fun _ _ _ _ _ _ us hl => match us, hl with | [_, _], _ => rfl
  have mLn := PySem.W.mg_of X G aLn
  have FLp := fun_mk (st := sLp) lLp cLp kLp
  have bLp := FLp.binds (ps := ["feed", "term", "barred", "share"]) fun _ _ _ _ _ _ us hl => match us, hl with | [_, _, _, _], _ => rfl
  have mLp := PySem.W.mg_of X G aLp
  have FLo := fun_mk (st := sLo) lLo cLo kLo
  have bLo := FLo.binds (ps := ["feed", "term", "share"]) fun _ _ _ _ _ _ us hl => match us, hl with | [_, _, _], _ => rfl
  have mLo := PySem.W.mg_of X G aLo
  have FLg := fun_mk (st := sLg) lLg cLg kLg
  have bLg := FLg.binds (ps := ["feed", "most", "below"]) fun _ _ _ _ _ _ us hl => match us, hl with | [_, _, _], _ => rfl
  have mLg := PySem.W.mg_of X G aLg
  have FLl := fun_mk (st := sLl) lLl cLl kLl
  have bLl := FLl.binds (ps := ["feed", "most"]) fun _ _ _ _ _ _ us hl => match us, hl with | [_, _], _ => rfl
  have mLl := PySem.W.mg_of X G aLl
  have FBl := fun_mk (st := sBl) lBl cBl kBl
  have bBl := FBl.binds (ps := ["feed"]) fun _ _ _ _ _ _ us hl => match us, hl with | [_], _ => rfl
  have mBl := PySem.W.mg_of X G aBl
  refine ⟨PySem.W.fnOf "law" "law" (defArgs sLaw) (defBody sLaw) (defScope sLaw) .none kVL dcL pmL anL cdL ctL, fun s v => .of_eq rfl, fun base _ _ => ?_⟩
  have R : Errs K mg fW (fun i => ([E0, E1, E2, E3, E4, E5, E6, E7, E8, E9, E10] : List Addr).getD i 0) := errs_of (inj_of nd rfl) (XE.upto10 (p := fun i => XE.Line K (([E0, E1, E2, E3, E4, E5, E6, E7, E8, E9, E10] : List Addr).getD i 0) (XE.chain (fun i => ([E0, E1, E2, E3, E4, E5, E6, E7, E8, E9, E10] : List Addr).getD i 0) i)) ⟨_, _, _, _, _, _, _, _, _, _, _, _, _, _, xE0⟩ ⟨_, _, _, _, _, _, _, _, _, _, _, _, _, _, xE1⟩ ⟨_, _, _, _, _, _, _, _, _, _, _, _, _, _, xE2⟩ ⟨_, _, _, _, _, _, _, _, _, _, _, _, _, _, xE3⟩ ⟨_, _, _, _, _, _, _, _, _, _, _, _, _, _, xE4⟩ ⟨_, _, _, _, _, _, _, _, _, _, _, _, _, _, xE5⟩ ⟨_, _, _, _, _, _, _, _, _, _, _, _, _, _, xE6⟩ ⟨_, _, _, _, _, _, _, _, _, _, _, _, _, _, xE7⟩ ⟨_, _, _, _, _, _, _, _, _, _, _, _, _, _, xE8⟩ ⟨_, _, _, _, _, _, _, _, _, _, _, _, _, _, xE9⟩ ⟨_, _, _, _, _, _, _, _, _, _, _, _, _, _, xE10⟩)
    (XE.upto10 (p := fun i => PySem.W.findIn K (.ref (([E0, E1, E2, E3, E4, E5, E6, E7, E8, E9, E10] : List Addr).getD i 0)) "__setattr__" = some (some (.builtin "object.__setattr__"))) sE0 sE1 sE2 sE3 sE4 sE5 sE6 sE7 sE8 sE9 sE10)
    (XE.upto10 (p := fun i => PySem.W.keepIn K (.ref (([E0, E1, E2, E3, E4, E5, E6, E7, E8, E9, E10] : List Addr).getD i 0)) = true) kE0 kE1 kE2 kE3 kE4 kE5 kE6 kE7 kE8 kE9 kE10)
    (XE.upto10 (p := fun i => PySem.W.findIn K (.ref (([E0, E1, E2, E3, E4, E5, E6, E7, E8, E9, E10] : List Addr).getD i 0)) "__init__" = some (some (.ref fW))) iE0 iE1 iE2 iE3 iE4 iE5 iE6 iE7 iE8 iE9 iE10)
    (XE.upto10 (p := fun i => PySem.W.findIn K (.ref (([E0, E1, E2, E3, E4, E5, E6, E7, E8, E9, E10] : List Addr).getD i 0)) "what" = some none) nE0 nE1 nE2 nE3 nE4 nE5 nE6 nE7 nE8 nE9 nE10) tW
    (XE.upto10 (p := fun i => PySem.W.findIn K (.ref (([E0, E1, E2, E3, E4, E5, E6, E7, E8, E9, E10] : List Addr).getD i 0)) "__getattribute__" = some (some (.builtin "BaseException.__getattribute__"))) gE0 gE1 gE2 gE3 gE4 gE5 gE6 gE7 gE8 gE9 gE10)
    (XE.upto10 (p := fun i => PySem.W.findIn K (.ref (([E0, E1, E2, E3, E4, E5, E6, E7, E8, E9, E10] : List Addr).getD i 0)) "__getattr__" = some none) hE0 hE1 hE2 hE3 hE4 hE5 hE6 hE7 hE8 hE9 hE10)
    (XE.upto10 (p := fun i => PySem.W.hasDictIn K (([E0, E1, E2, E3, E4, E5, E6, E7, E8, E9, E10] : List Addr).getD i 0) = true) dE0 dE1 dE2 dE3 dE4 dE5 dE6 dE7 dE8 dE9 dE10)
    (XE.upto10 (p := fun i => PySem.W.findIn K (.ref (([E0, E1, E2, E3, E4, E5, E6, E7, E8, E9, E10] : List Addr).getD i 0)) "__class__" = some (some (.builtin "object.__class__"))) cE0 cE1 cE2 cE3 cE4 cE5 cE6 cE7 cE8 cE9 cE10) xn xt
    (PySem.W.mg_of X G aE0) (PySem.W.mg_of X G aE1) (PySem.W.mg_of X G aE2) (PySem.W.mg_of X G aE3) (PySem.W.mg_of X G aE4) (PySem.W.mg_of X G aE5) (PySem.W.mg_of X G aE6) (PySem.W.mg_of X G aE7) (PySem.W.mg_of X G aE8) (PySem.W.mg_of X G aE9) (PySem.W.mg_of X G aE10)
  obtain ⟨fdW, FW⟩ : ∃ fd, FunD K "__init__" "WordError.__init__" (defArgs sWi) (defBody sWi) (defScope sWi) [.non] [] fW fd := ⟨_, ⟨ocW, odW, .ref TW, kVW, dcW, pmW, anW, cdW, ctW, slW, rfl, lW, cW, .inr ⟨(fun z => nomatch z), TW, _, [.none], nU, rfl, lTW, rfl, .cons rfl .nil⟩, .inl rfl⟩, kW⟩
  have bW : Binds K fdW ["self", "what"] [] := by
    obtain ⟨ds, v, b⟩ := FW.binds1 (ps := ["self", "what"]) 2 1 (fun z => nomatch z) rfl fun T kV doc pm an cdv ct us its hu hi => match us, its, hu, hi with | [_, _], [_], _, _ => ⟨_, rfl, rfl⟩
    cases v
    exact b
  have bW1 : ∃ ds, Vals [V.non] ds ∧ Binds K fdW ["self", "what"] ds := FW.binds1 (ps := ["self", "what"]) 1 0 (fun z => nomatch z) rfl fun T kV doc pm an cdv ct us its hu hi => match us, its, hu, hi with | [_], [_], _, _ => ⟨_, rfl, rfl⟩
  have mv := PySem.W.mg_none_of X G z_ValueError
  have GW := ok_W (P := l.prog) (w := w) (mg := mg) (base := base) FW
  have TR : TxtR K mg C := ⟨⟨pgC, hdC, poC, saC⟩, nCtop, nCbottom, PySem.W.mg_of X G aC, PySem.W.mg_of X G xG⟩
  have M : Mk K C fI := ⟨mkC, aI, iI, kcC⟩
  have GI := ok_init (P := l.prog) (w := w) (base := base) FI TR
  have TPtup := PySem.W.mg_none_of X G z_tuple
  have mMin := PySem.W.mg_none_of X G z_min
  have mEnu := PySem.W.mg_none_of X G z_enumerate
  have mPO := PySem.W.mg_of X G aPO
  have mEN := PySem.W.mg_of X G aEN
  have mLO := PySem.W.mg_of X G aLO
  have mDE := PySem.W.mg_of X G aDE
  have tEN : TupK K EA [.str "zero", .str "top", .str "bottom", .str "done"] := ⟨_, _, _, lEN, rfl, rfl, (by show 4 ≤ sizeLine; decide), .cons ⟨_, rfl⟩ (.cons ⟨_, rfl⟩ (.cons ⟨_, rfl⟩ (.cons ⟨_, rfl⟩ .nil)))⟩
  have pts : Pts K w PO := by
    refine ⟨fun p => ?_⟩
    cases p with
    | part =>
      refine ⟨tpart, [tpart0, tpart1, tpart2, tpart3, tpart4], ⟨_, _, _, lPO, klP, dtpart, rfl⟩, ⟨_, _, _, ltpart, rfl, rfl, (by show 5 ≤ sizeLine; decide), (.cons rfl (.cons rfl (.cons rfl (.cons rfl (.cons rfl .nil)))))⟩, rfl, fun i r e hr he => ?_⟩
      match i, hr, he with
        | 0, hr, he => obtain rfl := Option.some.inj hr; obtain rfl := Option.some.inj he; exact ⟨_, _, _, ltpart0, rfl, rfl, (by show 2 ≤ sizeLine; decide), .cons ⟨_, rfl⟩ (.cons ⟨_, rfl⟩ .nil)⟩
        | 1, hr, he => obtain rfl := Option.some.inj hr; obtain rfl := Option.some.inj he; exact ⟨_, _, _, ltpart1, rfl, rfl, (by show 2 ≤ sizeLine; decide), .cons ⟨_, rfl⟩ (.cons ⟨_, rfl⟩ .nil)⟩
        | 2, hr, he => obtain rfl := Option.some.inj hr; obtain rfl := Option.some.inj he; exact ⟨_, _, _, ltpart2, rfl, rfl, (by show 2 ≤ sizeLine; decide), .cons ⟨_, rfl⟩ (.cons ⟨_, rfl⟩ .nil)⟩
        | 3, hr, he => obtain rfl := Option.some.inj hr; obtain rfl := Option.some.inj he; exact ⟨_, _, _, ltpart3, rfl, rfl, (by show 2 ≤ sizeLine; decide), .cons ⟨_, rfl⟩ (.cons ⟨_, rfl⟩ .nil)⟩
        | 4, hr, he => obtain rfl := Option.some.inj hr; obtain rfl := Option.some.inj he; exact ⟨_, _, _, ltpart4, rfl, rfl, (by show 2 ≤ sizeLine; decide), .cons ⟨_, rfl⟩ (.cons ⟨_, rfl⟩ .nil)⟩
        | i + 5, hr, he => exact absurd hr (by simp)
    | minus =>
      refine ⟨tminus, [tminus0], ⟨_, _, _, lPO, klP, dtminus, rfl⟩, ⟨_, _, _, ltminus, rfl, rfl, (by show 1 ≤ sizeLine; decide), (.cons rfl .nil)⟩, rfl, fun i r e hr he => ?_⟩
      match i, hr, he with
        | 0, hr, he => obtain rfl := Option.some.inj hr; obtain rfl := Option.some.inj he; exact ⟨_, _, _, ltminus0, rfl, rfl, (by show 2 ≤ sizeLine; decide), .cons ⟨_, rfl⟩ (.cons ⟨_, rfl⟩ .nil)⟩
        | i + 1, hr, he => exact absurd hr (by simp)
    | zero =>
      refine ⟨tzero, [tzero0, tzero1, tzero2], ⟨_, _, _, lPO, klP, dtzero, rfl⟩, ⟨_, _, _, ltzero, rfl, rfl, (by show 3 ≤ sizeLine; decide), (.cons rfl (.cons rfl (.cons rfl .nil)))⟩, rfl, fun i r e hr he => ?_⟩
      match i, hr, he with
        | 0, hr, he => obtain rfl := Option.some.inj hr; obtain rfl := Option.some.inj he; exact ⟨_, _, _, ltzero0, rfl, rfl, (by show 2 ≤ sizeLine; decide), .cons ⟨_, rfl⟩ (.cons ⟨_, rfl⟩ .nil)⟩
        | 1, hr, he => obtain rfl := Option.some.inj hr; obtain rfl := Option.some.inj he; exact ⟨_, _, _, ltzero1, rfl, rfl, (by show 2 ≤ sizeLine; decide), .cons ⟨_, rfl⟩ (.cons ⟨_, rfl⟩ .nil)⟩
        | 2, hr, he => obtain rfl := Option.some.inj hr; obtain rfl := Option.some.inj he; exact ⟨_, _, _, ltzero2, rfl, rfl, (by show 2 ≤ sizeLine; decide), .cons ⟨_, rfl⟩ (.cons ⟨_, rfl⟩ .nil)⟩
        | i + 3, hr, he => exact absurd hr (by simp)
    | top =>
      refine ⟨ttop, [ttop0, ttop1, ttop2, ttop3], ⟨_, _, _, lPO, klP, dttop, rfl⟩, ⟨_, _, _, lttop, rfl, rfl, (by show 4 ≤ sizeLine; decide), (.cons rfl (.cons rfl (.cons rfl (.cons rfl .nil))))⟩, rfl, fun i r e hr he => ?_⟩
      match i, hr, he with
        | 0, hr, he => obtain rfl := Option.some.inj hr; obtain rfl := Option.some.inj he; exact ⟨_, _, _, lttop0, rfl, rfl, (by show 2 ≤ sizeLine; decide), .cons ⟨_, rfl⟩ (.cons ⟨_, rfl⟩ .nil)⟩
        | 1, hr, he => obtain rfl := Option.some.inj hr; obtain rfl := Option.some.inj he; exact ⟨_, _, _, lttop1, rfl, rfl, (by show 2 ≤ sizeLine; decide), .cons ⟨_, rfl⟩ (.cons ⟨_, rfl⟩ .nil)⟩
        | 2, hr, he => obtain rfl := Option.some.inj hr; obtain rfl := Option.some.inj he; exact ⟨_, _, _, lttop2, rfl, rfl, (by show 2 ≤ sizeLine; decide), .cons ⟨_, rfl⟩ (.cons ⟨_, rfl⟩ .nil)⟩
        | 3, hr, he => obtain rfl := Option.some.inj hr; obtain rfl := Option.some.inj he; exact ⟨_, _, _, lttop3, rfl, rfl, (by show 2 ≤ sizeLine; decide), .cons ⟨_, rfl⟩ (.cons ⟨_, rfl⟩ .nil)⟩
        | i + 4, hr, he => exact absurd hr (by simp)
    | slash =>
      refine ⟨tslash, [tslash0], ⟨_, _, _, lPO, klP, dtslash, rfl⟩, ⟨_, _, _, ltslash, rfl, rfl, (by show 1 ≤ sizeLine; decide), (.cons rfl .nil)⟩, rfl, fun i r e hr he => ?_⟩
      match i, hr, he with
        | 0, hr, he => obtain rfl := Option.some.inj hr; obtain rfl := Option.some.inj he; exact ⟨_, _, _, ltslash0, rfl, rfl, (by show 2 ≤ sizeLine; decide), .cons ⟨_, rfl⟩ (.cons ⟨_, rfl⟩ .nil)⟩
        | i + 1, hr, he => exact absurd hr (by simp)
    | bottom =>
      refine ⟨tbottom, [tbottom0, tbottom1, tbottom2], ⟨_, _, _, lPO, klP, dtbottom, rfl⟩, ⟨_, _, _, ltbottom, rfl, rfl, (by show 3 ≤ sizeLine; decide), (.cons rfl (.cons rfl (.cons rfl .nil)))⟩, rfl, fun i r e hr he => ?_⟩
      match i, hr, he with
        | 0, hr, he => obtain rfl := Option.some.inj hr; obtain rfl := Option.some.inj he; exact ⟨_, _, _, ltbottom0, rfl, rfl, (by show 2 ≤ sizeLine; decide), .cons ⟨_, rfl⟩ (.cons ⟨_, rfl⟩ .nil)⟩
        | 1, hr, he => obtain rfl := Option.some.inj hr; obtain rfl := Option.some.inj he; exact ⟨_, _, _, ltbottom1, rfl, rfl, (by show 2 ≤ sizeLine; decide), .cons ⟨_, rfl⟩ (.cons ⟨_, rfl⟩ .nil)⟩
        | 2, hr, he => obtain rfl := Option.some.inj hr; obtain rfl := Option.some.inj he; exact ⟨_, _, _, ltbottom2, rfl, rfl, (by show 2 ≤ sizeLine; decide), .cons ⟨_, rfl⟩ (.cons ⟨_, rfl⟩ .nil)⟩
        | i + 3, hr, he => exact absurd hr (by simp)
    | done =>
      refine ⟨tdone, [tdone0, tdone1], ⟨_, _, _, lPO, klP, dtdone, rfl⟩, ⟨_, _, _, ltdone, rfl, rfl, (by show 2 ≤ sizeLine; decide), (.cons rfl (.cons rfl .nil))⟩, rfl, fun i r e hr he => ?_⟩
      match i, hr, he with
        | 0, hr, he => obtain rfl := Option.some.inj hr; obtain rfl := Option.some.inj he; exact ⟨_, _, _, ltdone0, rfl, rfl, (by show 2 ≤ sizeLine; decide), .cons ⟨_, rfl⟩ (.cons ⟨_, rfl⟩ .nil)⟩
        | 1, hr, he => obtain rfl := Option.some.inj hr; obtain rfl := Option.some.inj he; exact ⟨_, _, _, ltdone1, rfl, rfl, (by show 2 ≤ sizeLine; decide), .cons ⟨_, rfl⟩ (.cons ⟨_, rfl⟩ .nil)⟩
        | i + 2, hr, he => exact absurd hr (by simp)
  have cFe : CalN l.prog w K mg base "_law_feed" 1 ["script"] (spFeed K) fFe _ := ⟨ok_feed FFe T, mFe, kFe, bFe⟩
  have cDr : CalN l.prog w K mg base "_law_draw" 1 ["feed", "limit"] spDraw fDr _ := ⟨ok_draw FDr T, mDr, kDr, bDr⟩
  have cI : CalP l.prog w K mg base "_law_is_integer" 1 ["actual"] spIsP fIs _ := ⟨ok_isP FIs T, mIs, kIs, bIs⟩
  have cM : CalP l.prog w K mg base "_law_marks" 1 ["e"] (spMarks (fun i => ([E0, E1, E2, E3, E4, E5, E6, E7, E8, E9, E10] : List Addr).getD i 0)) fMk _ := ⟨ok_marks FMk T R mv, mMk, kMk, bMk⟩
  have cU : CalP l.prog w K mg base "_law_due_marks" 1 ["k"] spDue fDu _ := ⟨ok_due FDu T, mDu, kDu, bDu⟩
  have TPstr := PySem.W.mg_none_of X G z_str
  have cGr : CalN l.prog w K mg base "_law_great" 2 ["feed", "parts"] spGreat fGr _ := ⟨ok_great FGr T cDr.G mDr kDr bDr, mGr, kGr, bGr⟩
  have cPa : CalN l.prog w K mg base "_law_pair" 1 ["above", "below"] spPair fPa _ := ⟨ok_pair FPa T, mPa, kPa, bPa⟩
  have cIs : CalN l.prog w K mg base "_law_is_integer" 1 ["actual"] spIsInt fIs _ := ⟨ok_isInt FIs T, mIs, kIs, bIs⟩
  have cSa : CalN l.prog w K mg base "_law_same" 2 ["actual", "due"] (spSame C) fSa _ := ⟨ok_same FSa T TR icC cIs.G mIs kIs bIs, mSa, kSa, bSa⟩
  have cLf : CalN l.prog w K mg base "_law_leaf" 3 ["feed", "wide"] (spLf C) fLf _ := ⟨ok_lf FLf T cDr cGr cPa, mLf, kLf, bLf⟩
  have cJo : CalN l.prog w K mg base "_law_joined" 2 ["feed", "one", "two"] (spJo C) fJo _ := ⟨ok_jo FJo cDr, mJo, kJo, bJo⟩
  have cBu : CalN l.prog w K mg base "_law_bush" 4 ["feed", "wide"] (spBu C) fBu _ := ⟨ok_bu FBu T cDr cLf cJo, mBu, kBu, bBu⟩
  have cCh : CalN l.prog w K mg base "_law_chain" 4 ["feed", "wide", "many"] (spCh C) fCh _ := ⟨ok_ch FCh T cDr cLf cJo, mCh, kCh, bCh⟩
  have cWi : CalN l.prog w K mg base "_law_wide_term" 4 ["feed", "wide"] (spBu C) fWi _ := ⟨ok_wi FWi T cLf cJo, mWi, kWi, bWi⟩
  have cTe : CalN l.prog w K mg base "_law_term" 5 ["feed"] (spTe C) fTe _ := ⟨ok_te FTe T cDr cCh cWi cBu, mTe, kTe, bTe⟩
  have cSt : CalN l.prog w K mg base "_law_same_term" 3 ["actual", "due"] (spSt C) fSt _ := ⟨ok_st FSt T TPstr TPtup cSa, mSt, kSt, bSt⟩
  have cNx : CalN l.prog w K mg base "_next_point" 1 ["point", "sign"] spNx fNx _ := ⟨ok_nx FNx mPO pts, mNx, kNx, bNx⟩
  have cWp : CalN l.prog w K mg base "_wrong_place" 2 ["text"] spWp fWp _ := ⟨ok_wp FWp T mEnu mLO mDE mEN tEN cNx, mWp, kWp, bWp⟩
  have cFo : CalN l.prog w K mg base "_law_following" 1 ["state", "sign", "opened"] spFo fFo _ := ⟨ok_fo FFo T, mFo, kFo, bFo⟩
  have cPl : CalN l.prog w K mg base "_law_place" 2 ["told"] spPl fPl _ := ⟨ok_pl FPl T mMin cFo, mPl, kPl, bPl⟩
  have cTk : CalN l.prog w K mg base "_tokens" 1 ["text"] spTk fTk _ := ⟨ok_tk FTk, mTk, kTk, bTk⟩
  have cTw : CalN l.prog w K mg base "_two" 1 ["kind", "one", "other"] (spTw C) fTw _ := ⟨ok_tw FTw, mTw, kTw, bTw⟩
  have cLe : CalN l.prog w K mg base "_leaf" 3 ["token"] (spLe C) fLe _ := ⟨ok_le FLe T TR M GI bI, mLe, kLe, bLe⟩
  have cBt : CalN l.prog w K mg base "_built" 4 ["tokens"] (spBt C) fBt _ := ⟨ok_bt FBt cTw cLe, mBt, kBt, bBt⟩
  have GRS := ok_rs (P := l.prog) (w := w) (base := base) (C := C) FRs R GW bW cWp cTk cBt
  have cAs : CalN l.prog w K mg base "_law_asked" 7 ["said", "term"] (spAs C) fAs _ := ⟨ok_as FAs T cSt R cPl GRS mRs kRs bRs cM cU cI, mAs, kAs, bAs⟩
  have cLn : CalN l.prog w K mg base "_law_loose_number" 2 ["feed", "one"] spLn fLn _ := ⟨ok_ln FLn T TPstr cDr, mLn, kLn, bLn⟩
  have GLo : ∀ n : Nat, FnOk l.prog w K mg base CX0 (2 * n + 4) fLo _ ["feed", "term", "share"] (spLoo C n) := ok_lo FLo FLp cDr cLn mLo kLo bLo mLp kLp bLp
  have cLo : CalN l.prog w K mg base "_law_loose" 122 ["feed", "term", "share"] (spLoo C 59) fLo _ := ⟨GLo 59, mLo, kLo, bLo⟩
  have cLp : CalN l.prog w K mg base "_law_loose_part" 123 ["feed", "term", "barred", "share"] (spLop C 59) fLp _ := ⟨ok_lp (n := 59) FLp cDr cLo, mLp, kLp, bLp⟩
  have cLg : CalN l.prog w K mg base "_law_long_number" 2 ["feed", "most", "below"] (spLg C) fLg _ := ⟨ok_lg FLg T TPstr cDr, mLg, kLg, bLg⟩
  have cLl : CalN l.prog w K mg base "_law_long" 3 ["feed", "most"] (spLl C) fLl _ := ⟨ok_ll FLl T cDr cLg, mLl, kLl, bLl⟩
  have cBl : CalN l.prog w K mg base "_law_built" 124 ["feed"] (spBl C) fBl _ := ⟨ok_bl FBl cDr cLl cTe cLp, mBl, kBl, bBl⟩
  exact ok_law (fun_mk (st := sLaw) lL cL kL) T cFe cBl cAs
theorem walk {l : PySem.W.OpenLaw} {q : Program} {loose : List Str} {XP : (Str → Option Value) → Heap → Prop} {YP : World → Heap → Prop} {d : DefRec} {K : Params → PySem.W.Frag} (hn : l.most = some 63) (hdf : d.params.defaults = [])
    (hY : ∀ (w : World) (h : Heap), YP w h → (K w.params).In h)
    (F : ∀ (w : World) (mg : Str → Option Value) (fa : Addr) (h : Heap), (K w.params).In h → h.Ns mainGlobals mg → mg d.name = some (.ref fa) →
      ∃ fd : FuncData, (∀ (s : Shared) (u : Value), BindsTo s fd ⟨[u], []⟩ [("script", u)]) ∧ ∀ base : Heap, (K w.params).In base → base.Ns mainGlobals mg → FnOk l.prog w (K w.params) mg base CX0 125 fa fd ["script"] (spLaw (K w.params))) :
    PySem.W.WalkO q loose XP YP l.row.toRowW d [] (fun f vs => PySem.call f vs) :=
  L2.walk_of (n := 63) (k := 125) (x := "script") (CX := fun _ => CX0) (sp := fun w => spLaw (K w.params)) hn (by decide) hdf ⟨rfl, by decide, by decide⟩ hY F (fun _ _ a ns hl _ hS => ⟨a, ns, rfl, hS, hl, fun _ => rfl⟩) fun _ _ _ _ _ z => z
end RX

set_option Elab.async false

open PySem PySem.W PyProof.Rows in
set_option maxRecDepth 100000 in
set_option maxHeartbeats 0 in
theorem PySem.Challenge.cw_wordworth_k27_read_sum_holds : PySem.Challenge.rw_wordworth_k27_read_sum.Holds := by
  w_on; o_law; k_head; (case hw => w_witness2)
  k_fill
  refine RX.walk (l := PySem.Challenge.rw_wordworth_k27_read_sum) rfl rfl (fun w h Y => PySem.W.kIn_of Y) ?F
  case F =>
    intro w mg fa h KX G hmg
    refine' RX.all_mk KX G hmg ?xG ?aPO ?lPO ?klP ?aEN ?lEN ?aLO ?aDE ?dtpart ?ltpart ?ltpart0 ?ltpart1 ?ltpart2 ?ltpart3 ?ltpart4 ?dtminus ?ltminus ?ltminus0 ?dtzero ?ltzero ?ltzero0 ?ltzero1 ?ltzero2 ?dttop ?lttop ?lttop0 ?lttop1 ?lttop2 ?lttop3 ?dtslash ?ltslash ?ltslash0 ?dtbottom ?ltbottom ?ltbottom0 ?ltbottom1 ?ltbottom2 ?dtdone ?ltdone ?ltdone0 ?ltdone1 ?aE10 ?xE10 ?sE10 ?kE10 ?iE10 ?nE10 ?gE10 ?hE10 ?dE10 ?cE10 ?aE0 ?xE0 ?sE0 ?kE0 ?iE0 ?nE0 ?gE0 ?hE0 ?dE0 ?cE0 ?aE1 ?xE1 ?sE1 ?kE1 ?iE1 ?nE1 ?gE1 ?hE1 ?dE1 ?cE1 ?aE2 ?xE2 ?sE2 ?kE2 ?iE2 ?nE2 ?gE2 ?hE2 ?dE2 ?cE2 ?aE3 ?xE3 ?sE3 ?kE3 ?iE3 ?nE3 ?gE3 ?hE3 ?dE3 ?cE3 ?aE4 ?xE4 ?sE4 ?kE4 ?iE4 ?nE4 ?gE4 ?hE4 ?dE4 ?cE4 ?aE5 ?xE5 ?sE5 ?kE5 ?iE5 ?nE5 ?gE5 ?hE5 ?dE5 ?cE5 ?aE6 ?xE6 ?sE6 ?kE6 ?iE6 ?nE6 ?gE6 ?hE6 ?dE6 ?cE6 ?aE7 ?xE7 ?sE7 ?kE7 ?iE7 ?nE7 ?gE7 ?hE7 ?dE7 ?cE7 ?aE8 ?xE8 ?sE8 ?kE8 ?iE8 ?nE8 ?gE8 ?hE8 ?dE8 ?cE8 ?aE9 ?xE9 ?sE9 ?kE9 ?iE9 ?nE9 ?gE9 ?hE9 ?dE9 ?cE9 ?tW ?lW ?cW ?kW ?lTW ?nd ?aC ?pgC ?hdC ?poC ?saC ?nCtop ?nCbottom ?mkC ?kcC ?xaC ?xmC ?aI ?iI ?lI ?cI ?kI ?lT ?xn ?xt ?aFe ?lFe ?cFe ?kFe ?aDr ?lDr ?cDr ?kDr ?aGr ?lGr ?cGr ?kGr ?aPa ?lPa ?cPa ?kPa ?aIs ?lIs ?cIs ?kIs ?aSa ?lSa ?cSa ?kSa ?aMk ?lMk ?cMk ?kMk ?aDu ?lDu ?cDu ?kDu ?aLf ?lLf ?cLf ?kLf ?aJo ?lJo ?cJo ?kJo ?aBu ?lBu ?cBu ?kBu ?aCh ?lCh ?cCh ?kCh ?aWi ?lWi ?cWi ?kWi ?aTe ?lTe ?cTe ?kTe ?aSt ?lSt ?cSt ?kSt ?aFo ?lFo ?cFo ?kFo ?aPl ?lPl ?cPl ?kPl ?aNx ?lNx ?cNx ?kNx ?aWp ?lWp ?cWp ?kWp ?aTk ?lTk ?cTk ?kTk ?aTw ?lTw ?cTw ?kTw ?aLe ?lLe ?cLe ?kLe ?aBt ?lBt ?cBt ?kBt ?aRs ?lRs ?cRs ?kRs ?aAs ?lAs ?cAs ?kAs ?aLn ?lLn ?cLn ?kLn ?aLp ?lLp ?cLp ?kLp ?aLo ?lLo ?cLo ?kLo ?aLg ?lLg ?cLg ?kLg ?aLl ?lLl ?cLl ?kLl ?aBl ?lBl ?cBl ?kBl ?aL ?lL ?cL ?kL ?z_abs ?z_len ?z_int ?z_max ?z_range ?z_isinstance ?z_bool ?z_tuple ?z_min ?z_enumerate ?z_str ?z_ValueError
    (case xG => k_is)
    (case aPO => k_is)
    (case lPO => k_is)
    (case klP => exact ⟨⟨_, _, rfl, rfl⟩, ⟨_, _, rfl, rfl⟩, ⟨_, _, rfl, rfl⟩, ⟨_, _, rfl, rfl⟩, ⟨_, _, rfl, rfl⟩, ⟨_, _, rfl, rfl⟩, ⟨_, _, rfl, rfl⟩, trivial⟩)
    (case aEN => k_is)
    (case lEN => k_is)
    (case aLO => k_is)
    (case aDE => k_is)
    (case dtpart => k_is)
    (case ltpart => k_is)
    (case ltpart0 => k_is)
    (case ltpart1 => k_is)
    (case ltpart2 => k_is)
    (case ltpart3 => k_is)
    (case ltpart4 => k_is)
    (case dtminus => k_is)
    (case ltminus => k_is)
    (case ltminus0 => k_is)
    (case dtzero => k_is)
    (case ltzero => k_is)
    (case ltzero0 => k_is)
    (case ltzero1 => k_is)
    (case ltzero2 => k_is)
    (case dttop => k_is)
    (case lttop => k_is)
    (case lttop0 => k_is)
    (case lttop1 => k_is)
    (case lttop2 => k_is)
    (case lttop3 => k_is)
    (case dtslash => k_is)
    (case ltslash => k_is)
    (case ltslash0 => k_is)
    (case dtbottom => k_is)
    (case ltbottom => k_is)
    (case ltbottom0 => k_is)
    (case ltbottom1 => k_is)
    (case ltbottom2 => k_is)
    (case dtdone => k_is)
    (case ltdone => k_is)
    (case ltdone0 => k_is)
    (case ltdone1 => k_is)
    (case aE10 => k_is)
    (case xE10 => k_is)
    (case sE10 => k_is)
    (case kE10 => k_is)
    (case iE10 => k_is)
    (case nE10 => k_is)
    (case gE10 => k_is)
    (case hE10 => k_is)
    (case dE10 => k_is)
    (case cE10 => k_is)
    (case aE0 => k_is)
    (case xE0 => k_is)
    (case sE0 => k_is)
    (case kE0 => k_is)
    (case iE0 => k_is)
    (case nE0 => k_is)
    (case gE0 => k_is)
    (case hE0 => k_is)
    (case dE0 => k_is)
    (case cE0 => k_is)
    (case aE1 => k_is)
    (case xE1 => k_is)
    (case sE1 => k_is)
    (case kE1 => k_is)
    (case iE1 => k_is)
    (case nE1 => k_is)
    (case gE1 => k_is)
    (case hE1 => k_is)
    (case dE1 => k_is)
    (case cE1 => k_is)
    (case aE2 => k_is)
    (case xE2 => k_is)
    (case sE2 => k_is)
    (case kE2 => k_is)
    (case iE2 => k_is)
    (case nE2 => k_is)
    (case gE2 => k_is)
    (case hE2 => k_is)
    (case dE2 => k_is)
    (case cE2 => k_is)
    (case aE3 => k_is)
    (case xE3 => k_is)
    (case sE3 => k_is)
    (case kE3 => k_is)
    (case iE3 => k_is)
    (case nE3 => k_is)
    (case gE3 => k_is)
    (case hE3 => k_is)
    (case dE3 => k_is)
    (case cE3 => k_is)
    (case aE4 => k_is)
    (case xE4 => k_is)
    (case sE4 => k_is)
    (case kE4 => k_is)
    (case iE4 => k_is)
    (case nE4 => k_is)
    (case gE4 => k_is)
    (case hE4 => k_is)
    (case dE4 => k_is)
    (case cE4 => k_is)
    (case aE5 => k_is)
    (case xE5 => k_is)
    (case sE5 => k_is)
    (case kE5 => k_is)
    (case iE5 => k_is)
    (case nE5 => k_is)
    (case gE5 => k_is)
    (case hE5 => k_is)
    (case dE5 => k_is)
    (case cE5 => k_is)
    (case aE6 => k_is)
    (case xE6 => k_is)
    (case sE6 => k_is)
    (case kE6 => k_is)
    (case iE6 => k_is)
    (case nE6 => k_is)
    (case gE6 => k_is)
    (case hE6 => k_is)
    (case dE6 => k_is)
    (case cE6 => k_is)
    (case aE7 => k_is)
    (case xE7 => k_is)
    (case sE7 => k_is)
    (case kE7 => k_is)
    (case iE7 => k_is)
    (case nE7 => k_is)
    (case gE7 => k_is)
    (case hE7 => k_is)
    (case dE7 => k_is)
    (case cE7 => k_is)
    (case aE8 => k_is)
    (case xE8 => k_is)
    (case sE8 => k_is)
    (case kE8 => k_is)
    (case iE8 => k_is)
    (case nE8 => k_is)
    (case gE8 => k_is)
    (case hE8 => k_is)
    (case dE8 => k_is)
    (case cE8 => k_is)
    (case aE9 => k_is)
    (case xE9 => k_is)
    (case sE9 => k_is)
    (case kE9 => k_is)
    (case iE9 => k_is)
    (case nE9 => k_is)
    (case gE9 => k_is)
    (case hE9 => k_is)
    (case dE9 => k_is)
    (case cE9 => k_is)
    (case tW => k_is)
    (case lW => k_is)
    (case cW => k_is)
    (case kW => k_is)
    (case lTW => k_is)
    (case nd => decide)
    (case aC => k_is)
    (case pgC => k_is)
    (case hdC => k_is)
    (case poC => k_is)
    (case saC => k_is)
    (case nCtop => k_is)
    (case nCbottom => k_is)
    (case mkC => k_is)
    (case kcC => k_is)
    (case xaC => k_is)
    (case xmC => k_is)
    (case aI => k_is)
    (case iI => k_is)
    (case lI => k_is)
    (case cI => k_is)
    (case kI => k_is)
    (case lT => k_is)
    (case xn => k_is)
    (case xt => k_is)
    (case aFe => k_is)
    (case lFe => k_is)
    (case cFe => k_is)
    (case kFe => k_is)
    (case aDr => k_is)
    (case lDr => k_is)
    (case cDr => k_is)
    (case kDr => k_is)
    (case aGr => k_is)
    (case lGr => k_is)
    (case cGr => k_is)
    (case kGr => k_is)
    (case aPa => k_is)
    (case lPa => k_is)
    (case cPa => k_is)
    (case kPa => k_is)
    (case aIs => k_is)
    (case lIs => k_is)
    (case cIs => k_is)
    (case kIs => k_is)
    (case aSa => k_is)
    (case lSa => k_is)
    (case cSa => k_is)
    (case kSa => k_is)
    (case aMk => k_is)
    (case lMk => k_is)
    (case cMk => k_is)
    (case kMk => k_is)
    (case aDu => k_is)
    (case lDu => k_is)
    (case cDu => k_is)
    (case kDu => k_is)
    (case aLf => k_is)
    (case lLf => k_is)
    (case cLf => k_is)
    (case kLf => k_is)
    (case aJo => k_is)
    (case lJo => k_is)
    (case cJo => k_is)
    (case kJo => k_is)
    (case aBu => k_is)
    (case lBu => k_is)
    (case cBu => k_is)
    (case kBu => k_is)
    (case aCh => k_is)
    (case lCh => k_is)
    (case cCh => k_is)
    (case kCh => k_is)
    (case aWi => k_is)
    (case lWi => k_is)
    (case cWi => k_is)
    (case kWi => k_is)
    (case aTe => k_is)
    (case lTe => k_is)
    (case cTe => k_is)
    (case kTe => k_is)
    (case aSt => k_is)
    (case lSt => k_is)
    (case cSt => k_is)
    (case kSt => k_is)
    (case aFo => k_is)
    (case lFo => k_is)
    (case cFo => k_is)
    (case kFo => k_is)
    (case aPl => k_is)
    (case lPl => k_is)
    (case cPl => k_is)
    (case kPl => k_is)
    (case aNx => k_is)
    (case lNx => k_is)
    (case cNx => k_is)
    (case kNx => k_is)
    (case aWp => k_is)
    (case lWp => k_is)
    (case cWp => k_is)
    (case kWp => k_is)
    (case aTk => k_is)
    (case lTk => k_is)
    (case cTk => k_is)
    (case kTk => k_is)
    (case aTw => k_is)
    (case lTw => k_is)
    (case cTw => k_is)
    (case kTw => k_is)
    (case aLe => k_is)
    (case lLe => k_is)
    (case cLe => k_is)
    (case kLe => k_is)
    (case aBt => k_is)
    (case lBt => k_is)
    (case cBt => k_is)
    (case kBt => k_is)
    (case aRs => k_is)
    (case lRs => k_is)
    (case cRs => k_is)
    (case kRs => k_is)
    (case aAs => k_is)
    (case lAs => k_is)
    (case cAs => k_is)
    (case kAs => k_is)
    (case aLn => k_is)
    (case lLn => k_is)
    (case cLn => k_is)
    (case kLn => k_is)
    (case aLp => k_is)
    (case lLp => k_is)
    (case cLp => k_is)
    (case kLp => k_is)
    (case aLo => k_is)
    (case lLo => k_is)
    (case cLo => k_is)
    (case kLo => k_is)
    (case aLg => k_is)
    (case lLg => k_is)
    (case cLg => k_is)
    (case kLg => k_is)
    (case aLl => k_is)
    (case lLl => k_is)
    (case cLl => k_is)
    (case kLl => k_is)
    (case aBl => k_is)
    (case lBl => k_is)
    (case cBl => k_is)
    (case kBl => k_is)
    (case aL => k_is)
    (case lL => k_is)
    (case cL => k_is)
    (case kL => k_is)
    (case z_abs => k_is)
    (case z_len => k_is)
    (case z_int => k_is)
    (case z_max => k_is)
    (case z_range => k_is)
    (case z_isinstance => k_is)
    (case z_bool => k_is)
    (case z_tuple => k_is)
    (case z_min => k_is)
    (case z_enumerate => k_is)
    (case z_str => k_is)
    (case z_ValueError => k_is)

