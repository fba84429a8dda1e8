import PyProof.Rows.All
import Wide.All
import OpenK.AllK
import Wide.FinOn
import HandS.Call
import HandS.List
import HandS.Wide
import KE.KOpsOwn
import HandS.ForMost
import HandS.Gcd
import HandS.MakeKw
import HandS.IsInst
import HandS.Codes
import HandS.Small
import HandS.Zip
import HandS.Ends
import KE.KMathG
import HandS.Walk
import HandS.StrMore
import HandS.Rev
import PyProof.StrOps
import HandS.Sort
import HandS.Star
import HandS.IterVal
import HandS.WideBits
import HandS.Property
import HandS.Steps
import KE.GoesEnum
import HandS.OwnEq
import PyProof.NeKinds
import HandS.Style
import PySem.Challenge.RW_wordworth_k38_carries_judged
/-! lowest terms, in plain Lean -/
namespace RT
def gg (t b : Int) : Int := ((Nat.gcd t.natAbs b.natAbs : Nat) : Int)
def byv (t b : Int) : Int := if b > 0 then gg t b else -(gg t b)
def top (t b : Int) : Int := t.fdiv (byv t b)
def bot (t b : Int) : Int := b.fdiv (byv t b)
theorem gg_pos {t b : Int} (h : b ≠ 0) : 0 < gg t b := by
  have : 0 < Nat.gcd t.natAbs b.natAbs := Nat.gcd_pos_of_pos_right _ (by omega)
  unfold gg; omega
theorem byv_ne {t b : Int} (h : b ≠ 0) : byv t b ≠ 0 := by
  have := gg_pos (t := t) h
  unfold byv; split <;> omega
theorem gg_dvd_l (t b : Int) : gg t b ∣ t := by
  unfold gg
  exact Int.ofNat_dvd_left.mpr (Nat.gcd_dvd_left _ _)
theorem gg_dvd_r (t b : Int) : gg t b ∣ b := by
  unfold gg
  exact Int.ofNat_dvd_left.mpr (Nat.gcd_dvd_right _ _)
theorem byv_dvd_l (t b : Int) : byv t b ∣ t := by
  unfold byv; split
  · exact gg_dvd_l t b
  · exact Int.neg_dvd.mpr (gg_dvd_l t b)
theorem byv_dvd_r (t b : Int) : byv t b ∣ b := by
  unfold byv; split
  · exact gg_dvd_r t b
  · exact Int.neg_dvd.mpr (gg_dvd_r t b)
theorem byv_natAbs (t b : Int) : (byv t b).natAbs = Nat.gcd t.natAbs b.natAbs := by
  unfold byv gg; split <;> simp
theorem fdiv_of_dvd {a b : Int} (hb : b ≠ 0) (h : b ∣ a) : a.fdiv b * b = a := by
  obtain ⟨k, rfl⟩ := h
  rw [Int.mul_fdiv_cancel_left _ hb, Int.mul_comm]
theorem top_mul {t b : Int} (h : b ≠ 0) : top t b * byv t b = t := fdiv_of_dvd (byv_ne h) (byv_dvd_l t b)
theorem bot_mul {t b : Int} (h : b ≠ 0) : bot t b * byv t b = b := fdiv_of_dvd (byv_ne h) (byv_dvd_r t b)
theorem bot_pos {t b : Int} (h : b ≠ 0) : 0 < bot t b := by
  have e := bot_mul (t := t) h
  have g := gg_pos (t := t) h
  unfold byv at e
  split at e
  · rename_i hb
    rcases Int.lt_trichotomy (bot t b) 0 with z | z | z
    · have := Int.mul_neg_of_neg_of_pos z g; omega
    · rw [z] at e; omega
    · exact z
  · rename_i hb
    rcases Int.lt_trichotomy (bot t b) 0 with z | z | z
    · have := Int.mul_neg_of_neg_of_pos z g
      have h2 : bot t b * -gg t b = -(bot t b * gg t b) := Int.mul_neg _ _
      omega
    · rw [z] at e; omega
    · exact z
theorem cop {t b : Int} (h : b ≠ 0) : Nat.Coprime (top t b).natAbs (bot t b).natAbs := by
  have e1 : (top t b).natAbs * Nat.gcd t.natAbs b.natAbs = t.natAbs := by
    rw [← byv_natAbs, ← Int.natAbs_mul, top_mul h]
  have e2 : (bot t b).natAbs * Nat.gcd t.natAbs b.natAbs = b.natAbs := by
    rw [← byv_natAbs, ← Int.natAbs_mul, bot_mul h]
  have hp : 0 < Nat.gcd t.natAbs b.natAbs := Nat.gcd_pos_of_pos_right _ (by omega)
  have : Nat.gcd ((top t b).natAbs * Nat.gcd t.natAbs b.natAbs) ((bot t b).natAbs * Nat.gcd t.natAbs b.natAbs) = Nat.gcd t.natAbs b.natAbs := by rw [e1, e2]
  rw [Nat.gcd_mul_right] at this
  unfold Nat.Coprime
  exact Nat.eq_of_mul_eq_mul_right hp (by rw [this, Nat.one_mul])
/-- two in lowest terms that are worth the same are the same -/
theorem uniq {n d n' d' : Int} (hd : 0 < d) (hd' : 0 < d') (c : Nat.Coprime n.natAbs d.natAbs) (c' : Nat.Coprime n'.natAbs d'.natAbs) (e : n * d' = n' * d) : n = n' ∧ d = d' := by
  have ea : n.natAbs * d'.natAbs = n'.natAbs * d.natAbs := by rw [← Int.natAbs_mul, e, Int.natAbs_mul]
  have h1 : d.natAbs ∣ d'.natAbs := c.symm.dvd_of_dvd_mul_left ⟨n'.natAbs, by rw [ea, Nat.mul_comm]⟩
  have h2 : d'.natAbs ∣ d.natAbs := c'.symm.dvd_of_dvd_mul_left ⟨n.natAbs, by rw [← ea, Nat.mul_comm]⟩
  have h3 : d.natAbs = d'.natAbs := Nat.dvd_antisymm h1 h2
  have h4 : d = d' := by omega
  subst h4
  exact ⟨Int.eq_of_mul_eq_mul_right (by omega) e, rfl⟩
theorem same {t b t' b' : Int} (h : b ≠ 0) (h' : b' ≠ 0) (e : t * b' = t' * b) : top t b = top t' b' ∧ bot t b = bot t' b' := by
  refine uniq (bot_pos h) (bot_pos h') (cop h) (cop h') ?_
  have e1 := top_mul (t := t) h
  have e2 := bot_mul (t := t) h
  have e3 := top_mul (t := t') h'
  have e4 := bot_mul (t := t') h'
  refine Int.eq_of_mul_eq_mul_right (byv_ne (t := t) h) (Int.eq_of_mul_eq_mul_right (byv_ne (t := t') h') ?_)
  calc top t b * bot t' b' * byv t b * byv t' b' = (top t b * byv t b) * (bot t' b' * byv t' b') := by ac_rfl
    _ = t * b' := by rw [e1, e4]
    _ = t' * b := e
    _ = (top t' b' * byv t' b') * (bot t b * byv t b) := by rw [e3, e2]
    _ = top t' b' * bot t b * byv t b * byv t' b' := by ac_rfl
/-- what is in lowest terms stays -/
theorem keeps {n d : Int} (hd : 0 < d) (c : Nat.Coprime n.natAbs d.natAbs) : top n d = n ∧ bot n d = d := by
  have h : d ≠ 0 := by omega
  refine uniq (bot_pos h) hd (cop h) c ?_
  have e1 := top_mul (t := n) h
  have e2 := bot_mul (t := n) h
  refine Int.eq_of_mul_eq_mul_right (byv_ne (t := n) h) ?_
  calc top n d * d * byv n d = (top n d * byv n d) * d := by ac_rfl
    _ = n * d := by rw [e1]
    _ = n * (bot n d * byv n d) := by rw [e2]
    _ = n * bot n d * byv n d := by ac_rfl
theorem one (t : Int) : top t 1 = t ∧ bot t 1 = 1 := keeps (by decide) (Nat.coprime_one_right _)
/-- worth: the fraction is the same number -/
theorem cross {t b : Int} (h : b ≠ 0) : top t b * b = t * bot t b := by
  have e1 := top_mul (t := t) h
  have e2 := bot_mul (t := t) h
  have e : top t b * b = top t b * (bot t b * byv t b) := by rw [e2]
  have e' : t * bot t b = (top t b * byv t b) * bot t b := by rw [e1]
  rw [e, e']; ac_rfl
theorem top_le {t b : Int} (h : b ≠ 0) : (top t b).natAbs ≤ t.natAbs := by
  have e1 : (top t b).natAbs * (byv t b).natAbs = t.natAbs := by rw [← Int.natAbs_mul, top_mul h]
  have : 0 < (byv t b).natAbs := by have := byv_ne (t := t) h; omega
  rw [← e1]; exact Nat.le_mul_of_pos_right _ this
theorem bot_le {t b : Int} (h : b ≠ 0) : (bot t b).natAbs ≤ b.natAbs := by
  have e1 : (bot t b).natAbs * (byv t b).natAbs = b.natAbs := by rw [← Int.natAbs_mul, bot_mul h]
  have : 0 < (byv t b).natAbs := by have := byv_ne (t := t) h; omega
  rw [← e1]; exact Nat.le_mul_of_pos_right _ this
theorem byv_le {t b : Int} (h : b ≠ 0) : (byv t b).natAbs ≤ b.natAbs := by
  rw [byv_natAbs]; exact Nat.le_of_dvd (by omega) (Nat.gcd_dvd_right _ _)
/-- minus and less -/
theorem neg_cop {n d : Int} (c : Nat.Coprime n.natAbs d.natAbs) : Nat.Coprime (0 - n).natAbs d.natAbs := by
  have : (0 - n).natAbs = n.natAbs := by omega
  rw [this]; exact c
/-- distributive, over lowest terms -/
theorem chain {a b c d e f : Int} (hb : b ≠ 0) (hd : d ≠ 0) (hf : f ≠ 0) :
    top (top (a * e) (b * f) * bot (c * e) (d * f) + top (c * e) (d * f) * bot (a * e) (b * f)) (bot (a * e) (b * f) * bot (c * e) (d * f))
      = top (top (a * d + c * b) (b * d) * e) (bot (a * d + c * b) (b * d) * f) ∧
    bot (top (a * e) (b * f) * bot (c * e) (d * f) + top (c * e) (d * f) * bot (a * e) (b * f)) (bot (a * e) (b * f) * bot (c * e) (d * f))
      = bot (top (a * d + c * b) (b * d) * e) (bot (a * d + c * b) (b * d) * f) := by
  have h1 : b * f ≠ 0 := Int.mul_ne_zero hb hf
  have h2 : d * f ≠ 0 := Int.mul_ne_zero hd hf
  have h3 : b * d ≠ 0 := Int.mul_ne_zero hb hd
  have p1 := bot_pos (t := a * e) h1
  have p2 := bot_pos (t := c * e) h2
  have p3 := bot_pos (t := a * d + c * b) h3
  have x1 := cross (t := a * e) h1
  have x2 := cross (t := c * e) h2
  have x3 := cross (t := a * d + c * b) h3
  generalize top (a * e) (b * f) = n1 at *
  generalize bot (a * e) (b * f) = d1 at *
  generalize top (c * e) (d * f) = n2 at *
  generalize bot (c * e) (d * f) = d2 at *
  generalize top (a * d + c * b) (b * d) = n3 at *
  generalize bot (a * d + c * b) (b * d) = d3 at *
  refine same (Int.mul_ne_zero (by omega) (by omega)) (Int.mul_ne_zero (by omega) hf) ?_
  -- (n1 d2 + n2 d1) (d3 f) = (n3 e) (d1 d2)
  refine Int.eq_of_mul_eq_mul_right h3 (Int.eq_of_mul_eq_mul_right hf ?_)
  have L : (n1 * d2 + n2 * d1) * (d3 * f) * (b * d) * f = ((n1 * (b * f)) * (d2 * d * d3) + (n2 * (d * f)) * (d1 * b * d3)) * f := by
    simp only [Int.add_mul, Int.mul_add]
    congr 1 <;> ac_rfl
  have R : n3 * e * (d1 * d2) * (b * d) * f = (n3 * (b * d)) * (e * d1 * d2 * f) := by ac_rfl
  rw [L, R, x1, x2, x3]
  simp only [Int.add_mul, Int.mul_add]
  congr 1 <;> ac_rfl
end RT

set_option Elab.async false
set_option maxRecDepth 100000
namespace RX
open PySem PySem.Spec PyProof.Rows L2
/-- // by a divisor of either sign, below 2 ^ 9000 -/
def CDivZ (_ j : Int) : Prop := j ≠ 0 ∧ j.natAbs.log2 < 9000
theorem op_fdivZ {X : Cx} : OpR X (binaryOp .FloorDiv) (rI CDivZ fun i j => .int (i.fdiv j)) := opI fun _ _ _ _ _ _ _ hc q => floordiv_int hc.1 q (.inl (PyProof.noPylong_of_log2 hc.2))
theorem divZ {i j : Int} {b : Nat} (h : j ≠ 0) (hb : j.natAbs < 2 ^ b) (h0 : 0 < b) (h9 : b ≤ 9000) : CDivZ i j := ⟨h, Nat.lt_of_lt_of_le (PySem.Flt.log2_lt_of h0 hb) h9⟩
/-- the class at C has the operator op as the def at f -/
structure OpOf (K : PySem.W.Frag) (C : Addr) (x : Str) (f : Addr) : Prop where
  first : PySem.W.selfFirst K C = true
  at_ : PySem.W.findIn K (.ref C) x = some (some (.ref f))
  fn : PySem.W.isFn K (.ref f) = true
/-- a op b, both instances of the class at C: what the operator's def promises; it hands back an object -/
def rOwn (C : Addr) (sp : Sp) (E : XK) : R2 := fun x y H Q => ∃ a b dx dy fs gs, x = .ref a ∧ y = .ref b ∧ H a = some (.ins C dx fs) ∧ H b = some (.ins C dy gs) ∧ sp [.ref a, .ref b] H (fun v H' => (∃ c, v = .ref c) ∧ Q v H') E
def rOwn1 (C : Addr) (sp : Sp) (E : XK) : V → Hp → VK → Prop := fun x H Q => ∃ a dx fs, x = .ref a ∧ H a = some (.ins C dx fs) ∧ sp [.ref a] H Q E
section
variable {X : Cx} {CX : CXT} {k : Nat} {C f : Addr} {fd : FuncData} {ps : List Str} {sp : Sp} {E : XK}
theorem op_own {op : Operator} (O : OpOf X.K C (PySem.dunder op.info.2) f) (F : FnOk X.prog X.w X.K X.mg X.base CX k f fd ps sp) (hr : Room k X.A) (hb : Binds X.K fd ps []) (hx : Passes CX X E) : OpR X (binaryOp op) (rOwn C sp E) := by
  intro pins s σ H x y v u Q I rx ry h
  obtain ⟨a, b, dx, dy, fs, gs, rfl, rfl, ha, hb', hs⟩ := h
  cases rx
  cases ry
  obtain ⟨mA, J, _⟩ := ins_get I.hok ha
  obtain ⟨mB, J', _⟩ := ins_get I.hok hb'
  obtain ⟨od, J, _⟩ := J.look
  obtain ⟨od', J', _⟩ := J'.look
  obtain ⟨m, hF⟩ := I.fr
  refine PySem.W.binop_K hF I.ok.mod.kin J J'.type O.first O.at_ O.fn ?_
  refine thn (run_fn (us := [.ref a, .ref b]) (vs := [.ref a, .ref b]) (dvs := []) (ds := []) F hr hb .nil hx I (.cons rfl (.cons rfl .nil)) hs) fun w' s' hq => ?_
  obtain ⟨z, H', I', rz, ⟨c, ez⟩, q⟩ := hq
  subst ez
  cases rz
  exact ⟨.ref c, H', I', rfl, q⟩
theorem un_own {op : UnaryOp} (h1 : op = .USub) (hs : PySem.W.findIn X.K (.ref C) "__neg__" = some (some (.ref f))) (hf : PySem.W.isFn X.K (.ref f) = true) (F : FnOk X.prog X.w X.K X.mg X.base CX k f fd ps sp) (hr : Room k X.A) (hb : Binds X.K fd ps []) (hx : Passes CX X E) : UnR X (unaryOp op) (rOwn1 C sp E) := by
  subst h1
  intro pins s σ H x v Q I rx h
  obtain ⟨a, dx, fs, rfl, ha, hsp⟩ := h
  cases rx
  obtain ⟨mA, J, _⟩ := ins_get I.hok ha
  obtain ⟨od, J, _⟩ := J.look
  obtain ⟨m, hF⟩ := I.fr
  refine PySem.W.ksp_neg hF I.ok.mod.kin J hs hf ?_
  exact run_fn (us := [.ref a]) (vs := [.ref a]) (dvs := []) (ds := []) F hr hb .nil hx I (.cons rfl .nil) hsp
end
end RX

set_option Elab.async false
set_option maxRecDepth 100000
namespace RX
open PySem L2
def topS (i : Nat) : Stmt := PySem.Challenge.pw_wordworth_k38_carries_judged.main.body.getD i (.Pass ⟨0, 0, 0, 0⟩)
abbrev sInit : Stmt := inClass (topS 8) 0
abbrev sAdd : Stmt := inClass (topS 8) 1
abbrev sSub : Stmt := inClass (topS 8) 2
abbrev sMul : Stmt := inClass (topS 8) 3
abbrev sNeg : Stmt := inClass (topS 8) 4
/-! ### a Ratio -/
theorem tb : ¬ (("top" : Str) = "bottom") := by decide +kernel
def rf (n d : Int) : List (Str × V) := putF "bottom" (.int d) (putF "top" (.int n) [])
theorem rf_top (n d : Int) : (rf n d).lookup ("top" : Str) = some (.int n) := by
  unfold rf
  rw [lookup_putF, if_neg tb, lookup_putF, if_pos rfl]
theorem rf_bot (n d : Int) : (rf n d).lookup ("bottom" : Str) = some (.int d) := by
  unfold rf
  rw [lookup_putF, if_pos rfl]
theorem rf_no (n d : Int) {m : Str} (h1 : ¬ m = "bottom") (h2 : ¬ m = "top") : (rf n d).lookup m = none := by
  unfold rf
  rw [lookup_putF, if_neg h1, lookup_putF, if_neg h2]
  all_goals rfl
/-- the Ratio n / d stands at p -/
def RatAt (C : Addr) (H : Hp) (p : Addr) (n d : Int) : Prop := ∃ dx, H p = some (.ins C dx (rf n d))
theorem RatAt.same {C : Addr} {H H' : Hp} {p : Addr} {n d : Int} (s : Same H H') (h : RatAt C H p n d) : RatAt C H' p n d := let ⟨dx, e⟩ := h; ⟨dx, s _ _ e⟩
theorem Same.upd {H : Hp} {p : Addr} {o : HO} (h : H p = none) : Same H (upd H p o) := fun b x e => by
  rw [upd_ne (ne_of_none e h)]
  exact e
/-- of at most 4400 bits -/
def Sm (x : Int) : Prop := x.natAbs < 2 ^ 4400
/-- of at most 8900 bits -/
def Md (x : Int) : Prop := x.natAbs < 2 ^ 8900
theorem Sm.mul {x y : Int} (a : Sm x) (b : Sm y) : x.natAbs * y.natAbs < 2 ^ 8800 := by
  have := Nat.mul_lt_mul'' a b
  rw [← Nat.pow_add] at this
  exact this
theorem Sm.w {x y : Int} (a : Sm x) (b : Sm y) : CMulW x y := wide_mul a b (by decide) (by decide) (by decide)
theorem Sm.md {x y : Int} (a : Sm x) (b : Sm y) : Md (x * y) := by
  unfold Md
  rw [Int.natAbs_mul]
  exact Nat.lt_trans (Sm.mul a b) (Nat.pow_lt_pow_right (by decide) (by decide))
/-! ### promises -/
def spInit (C : Addr) : Sp := fun vs H Q _ => ∃ (p dx : Addr) (t b : Int), vs = [.ref p, .int t, .int b] ∧ H p = some (.ins C dx []) ∧ b ≠ 0 ∧ Md b ∧
  ∀ H' : Hp, RatAt C H' p (RT.top t b) (RT.bot t b) → (∀ c o, H c = some o → c ≠ p → H' c = some o) → Q .non H'
/-- of two Ratios: a new one -/
def spBin (C : Addr) (g g' : Int → Int → Int → Int → Int) : Sp := fun vs H Q _ => ∃ (p q : Addr) (n d m e : Int), vs = [.ref p, .ref q] ∧ RatAt C H p n d ∧ RatAt C H q m e ∧ d ≠ 0 ∧ e ≠ 0 ∧ Sm n ∧ Sm d ∧ Sm m ∧ Sm e ∧
  ∀ (r : Addr) (H' : Hp), Same H H' → H r = none → RatAt C H' r (RT.top (g n d m e) (g' n d m e)) (RT.bot (g n d m e) (g' n d m e)) → Q (.ref r) H'
def spAdd (C : Addr) : Sp := spBin C (fun n d m e => n * e + m * d) (fun _ d _ e => d * e)
def spSub (C : Addr) : Sp := spBin C (fun n d m e => n * e - m * d) (fun _ d _ e => d * e)
def spMul (C : Addr) : Sp := spBin C (fun n _ m _ => n * m) (fun _ d _ e => d * e)
def spNeg (C : Addr) : Sp := fun vs H Q _ => ∃ (p : Addr) (n d : Int), vs = [.ref p] ∧ RatAt C H p n d ∧ d ≠ 0 ∧ Sm d ∧
  ∀ (r : Addr) (H' : Hp), Same H H' → H r = none → RatAt C H' r (RT.top (-n) d) (RT.bot (-n) d) → Q (.ref r) H'
structure TxtR (K : PySem.W.Frag) (mg : Str → Option Value) (C : Addr) : Prop where
  cl : Cls K C
  nT : NoAttr K C "top"
  nB : NoAttr K C "bottom"
  mgC : mg "Ratio" = some (.ref C)
  gcd : mg "gcd" = some (.builtin "math.gcd")
section
variable {P : Program} {w : World} {K : PySem.W.Frag} {mg : Str → Option Value} {base : Heap}
theorem scI : FnScope ["self", "top", "bottom", "shared", "by"] ["self", "top", "bottom"] (defScope sInit) := ⟨rfl, rfl, rfl, by decide +kernel, rfl, by decide +kernel, by decide +kernel⟩
theorem ok_init {f C : Addr} {fd : FuncData} (F : FunD K "__init__" "Ratio.__init__" (defArgs sInit) (defBody sInit) (defScope sInit) [.int 1] [] f fd) (T : TxtR K mg C) : FnOk P w K mg base CX0 1 f fd ["self", "top", "bottom"] (spInit C) := by
  refine F.ok scI (fun vs H Q E h => ?_) (fun cdv A outer s H vs Q E hr h => ?_)
  · obtain ⟨p, dx, t, b, rfl, _⟩ := h
    rfl
  · obtain ⟨p, dx, t, b, rfl, hp, hb, hz, k⟩ := h
    refine ⟨_, pss_cons (ps_if (pt_cmpR op_eq (pv 2) pe_int (nomark _)) (pss_one ps_never) pss_nil)
      (pss_cons (ps_set (i := 3) scI.nd rfl (Or.inl rfl) (pe_callBfun cr_gcd (by rfl) T.gcd (pa_cons (pv 1) (pa_cons (pv 2) pa_nil))))
      (pss_cons (ps_set (i := 4) scI.nd rfl (Or.inl rfl) (pe_ifExp (pt_cmpR op_gt (pv 2) pe_int (nomark _)) (pv 3) (pe_un un_neg (pv 3))))
      (pss_cons (ps_fld (pv 0) (pe_op op_fdivZ (pv 1) (pv 4)) rfl)
      (pss_one (ps_fld (pv 0) (pe_op op_fdivZ (pv 2) (pv 4)) rfl))))), ?_⟩
    refine ⟨_, rfl, rfl, _, rfl, ?_⟩
    refine ite2 (fun z => ?_) (fun _ => ?_)
    · have z' := of_decide_eq_true z
      injection z' with z'
      exact absurd z' hb
    refine ⟨_, rfl, _, rfl, t, b, rfl, ?_⟩
    refine ⟨_, rfl, _, _, rfl, rfl, _, rfl, ?_⟩
    have by_ne := RT.byv_ne (t := t) hb
    have by_le := RT.byv_le (t := t) hb
    have hdiv : ∀ x y : Int, y = RT.byv t b → CDivZ x y := fun x y e => by
      subst e
      exact divZ by_ne (Nat.lt_of_le_of_lt by_le hz) (by decide) (by decide)
    have key : (if decide (b > 0) = true then RT.gg t b else -RT.gg t b) = RT.byv t b := by
      unfold RT.byv
      by_cases h0 : b > 0
      · rw [if_pos h0, if_pos (decide_eq_true h0)]
      · rw [if_neg h0, if_neg (by rw [decide_eq_false h0]; exact Bool.false_ne_true)]
    have fin : ∀ x : Int, x = RT.byv t b → Q .non (upd (upd H p (.ins C dx (putF "top" (.int (t.fdiv x)) []))) p (.ins C dx (putF "bottom" (.int (b.fdiv x)) (putF "top" (.int (t.fdiv x)) [])))) := fun x e => by
      subst e
      refine k _ ⟨dx, upd_same⟩ fun c o hc ne => ?_
      rw [upd_ne ne, upd_ne ne]
      exact hc
    refine ite2 (fun z => ?_) (fun z => ?_)
    · rw [if_pos z] at key
      refine ⟨_, rfl, _, rfl, _, rfl, _, _, rfl, rfl, (hdiv t _ key), _, rfl, p, C, dx, [], rfl, hp, T.cl, T.nT, (by show 0 < 1000; decide), ?_⟩
      exact ⟨_, rfl, _, rfl, _, _, rfl, rfl, (hdiv b _ key), _, rfl, p, C, dx, _, rfl, upd_same, T.cl, T.nB, (by show 1 < 1000; decide), fin _ key⟩
    · rw [if_neg z] at key
      refine ⟨_, rfl, _, rfl, _, rfl, _, rfl, _, _, rfl, rfl, (hdiv t _ key), _, rfl, p, C, dx, [], rfl, hp, T.cl, T.nT, (by show 0 < 1000; decide), ?_⟩
      exact ⟨_, rfl, _, rfl, _, _, rfl, rfl, (hdiv b _ key), _, rfl, p, C, dx, _, rfl, upd_same, T.cl, T.nB, (by show 1 < 1000; decide), fin _ key⟩
/-- Ratio(t, b), both written: the rule's own question answered -/
theorem make_in {C : Addr} {H : Hp} {t b : Int} {Q : VK} {E : XK} (hb : b ≠ 0) (hz : Md b) (k : ∀ (r : Addr) (H' : Hp), Same H H' → H r = none → RatAt C H' r (RT.top t b) (RT.bot t b) → Q (.ref r) H') :
    ∀ x dx, H x = none → H dx = none → dx ≠ x → spInit C (.ref x :: ([.int t, .int b] ++ [])) (upd (upd H dx (.own x)) x (.ins C dx [])) (fun v H2 => v = .non ∧ Q (.ref x) H2) E := by
  intro x dx nx nd ne
  exact ⟨x, dx, t, b, rfl, upd_same, hb, hz, fun H' hR kp => ⟨rfl, k x H' (Same.made nx nd kp) nx hR⟩⟩
theorem scA : FnScope ["self", "other", "top"] ["self", "other"] (defScope sAdd) := ⟨rfl, rfl, rfl, by decide +kernel, rfl, by decide +kernel, by decide +kernel⟩
theorem scS : FnScope ["self", "other", "top"] ["self", "other"] (defScope sSub) := ⟨rfl, rfl, rfl, by decide +kernel, rfl, by decide +kernel, by decide +kernel⟩
theorem scM : FnScope ["self", "other"] ["self", "other"] (defScope sMul) := ⟨rfl, rfl, rfl, by decide +kernel, rfl, by decide +kernel, by decide +kernel⟩
theorem scN : FnScope ["self"] ["self"] (defScope sNeg) := ⟨rfl, rfl, rfl, by decide +kernel, rfl, by decide +kernel, by decide +kernel⟩
section
variable {f fI C : Addr} {fd fdI : FuncData} {k : Nat} (T : TxtR K mg C) (M : Mk K C fI) (GI : FnOk P w K mg base CX0 1 fI fdI ["self", "top", "bottom"] (spInit C)) (bI : Binds K fdI ["self", "top", "bottom"] [])
include T M GI bI
theorem ok_add (F : Fun K "__add__" "Ratio.__add__" sAdd f fd) : FnOk P w K mg base CX0 3 f fd ["self", "other"] (spAdd C) := by
  refine F.ok scA (fun vs H Q E h => ?_) (fun cdv A outer s H vs Q E hr h => ?_)
  · obtain ⟨p, q, n, d, m, e, rfl, _⟩ := h
    rfl
  · obtain ⟨p, q, n, d, m, e, rfl, ⟨dx, hp⟩, ⟨dy, hq⟩, hd, he, sn, sd, sm, se, kk⟩ := h
    refine ⟨_, pss_cons (ps_set (i := 2) scA.nd rfl (Or.inl rfl) (pe_op op_add (pe_op op_mulW (pe_fld (pv 0) rfl) (pe_fld (pv 1) rfl)) (pe_op op_mulW (pe_fld (pv 1) rfl) (pe_fld (pv 0) rfl))))
      (pss_one (ps_ret (pe_make M GI hr rfl T.mgC bI .nil pass0 (pa_cons (pv 2) (pa_cons (pe_op op_mulW (pe_fld (pv 0) rfl) (pe_fld (pv 1) rfl)) pa_nil))))), ?_⟩
    refine ⟨_, rfl, p, C, dx, _, _, rfl, hp, T.cl, T.nT, rf_top _ _, _, rfl, q, C, dy, _, _, rfl, hq, T.cl, T.nB, rf_bot _ _, _, _, rfl, rfl, Sm.w sn se,
      _, rfl, q, C, dy, _, _, rfl, hq, T.cl, T.nT, rf_top _ _, _, rfl, p, C, dx, _, _, rfl, hp, T.cl, T.nB, rf_bot _ _, _, _, rfl, rfl, Sm.w sm sd, _, _, rfl, rfl, ?_⟩
    refine ⟨_, rfl, _, rfl, p, C, dx, _, _, rfl, hp, T.cl, T.nB, rf_bot _ _, _, rfl, q, C, dy, _, _, rfl, hq, T.cl, T.nB, rf_bot _ _, _, _, rfl, rfl, Sm.w sd se, ?_⟩
    exact make_in (Int.mul_ne_zero hd he) (Sm.md sd se) kk
theorem ok_sub (F : Fun K "__sub__" "Ratio.__sub__" sSub f fd) : FnOk P w K mg base CX0 3 f fd ["self", "other"] (spSub C) := by
  refine F.ok scS (fun vs H Q E h => ?_) (fun cdv A outer s H vs Q E hr h => ?_)
  · obtain ⟨p, q, n, d, m, e, rfl, _⟩ := h
    rfl
  · obtain ⟨p, q, n, d, m, e, rfl, ⟨dx, hp⟩, ⟨dy, hq⟩, hd, he, sn, sd, sm, se, kk⟩ := h
    refine ⟨_, pss_cons (ps_set (i := 2) scS.nd rfl (Or.inl rfl) (pe_op op_sub (pe_op op_mulW (pe_fld (pv 0) rfl) (pe_fld (pv 1) rfl)) (pe_op op_mulW (pe_fld (pv 1) rfl) (pe_fld (pv 0) rfl))))
      (pss_one (ps_ret (pe_make M GI hr rfl T.mgC bI .nil pass0 (pa_cons (pv 2) (pa_cons (pe_op op_mulW (pe_fld (pv 0) rfl) (pe_fld (pv 1) rfl)) pa_nil))))), ?_⟩
    refine ⟨_, rfl, p, C, dx, _, _, rfl, hp, T.cl, T.nT, rf_top _ _, _, rfl, q, C, dy, _, _, rfl, hq, T.cl, T.nB, rf_bot _ _, _, _, rfl, rfl, Sm.w sn se,
      _, rfl, q, C, dy, _, _, rfl, hq, T.cl, T.nT, rf_top _ _, _, rfl, p, C, dx, _, _, rfl, hp, T.cl, T.nB, rf_bot _ _, _, _, rfl, rfl, Sm.w sm sd, _, _, rfl, rfl, ?_⟩
    refine ⟨_, rfl, _, rfl, p, C, dx, _, _, rfl, hp, T.cl, T.nB, rf_bot _ _, _, rfl, q, C, dy, _, _, rfl, hq, T.cl, T.nB, rf_bot _ _, _, _, rfl, rfl, Sm.w sd se, ?_⟩
    exact make_in (Int.mul_ne_zero hd he) (Sm.md sd se) kk
theorem ok_mul (F : Fun K "__mul__" "Ratio.__mul__" sMul f fd) : FnOk P w K mg base CX0 3 f fd ["self", "other"] (spMul C) := by
  refine F.ok scM (fun vs H Q E h => ?_) (fun cdv A outer s H vs Q E hr h => ?_)
  · obtain ⟨p, q, n, d, m, e, rfl, _⟩ := h
    rfl
  · obtain ⟨p, q, n, d, m, e, rfl, ⟨dx, hp⟩, ⟨dy, hq⟩, hd, he, sn, sd, sm, se, kk⟩ := h
    refine ⟨_, pss_one (ps_ret (pe_make M GI hr rfl T.mgC bI .nil pass0 (pa_cons (pe_op op_mulW (pe_fld (pv 0) rfl) (pe_fld (pv 1) rfl)) (pa_cons (pe_op op_mulW (pe_fld (pv 0) rfl) (pe_fld (pv 1) rfl)) pa_nil)))), ?_⟩
    refine ⟨_, rfl, p, C, dx, _, _, rfl, hp, T.cl, T.nT, rf_top _ _, _, rfl, q, C, dy, _, _, rfl, hq, T.cl, T.nT, rf_top _ _, _, _, rfl, rfl, Sm.w sn sm, ?_⟩
    refine ⟨_, rfl, p, C, dx, _, _, rfl, hp, T.cl, T.nB, rf_bot _ _, _, rfl, q, C, dy, _, _, rfl, hq, T.cl, T.nB, rf_bot _ _, _, _, rfl, rfl, Sm.w sd se, ?_⟩
    exact make_in (Int.mul_ne_zero hd he) (Sm.md sd se) kk
theorem ok_neg (F : Fun K "__neg__" "Ratio.__neg__" sNeg f fd) : FnOk P w K mg base CX0 3 f fd ["self"] (spNeg C) := by
  refine F.ok scN (fun vs H Q E h => ?_) (fun cdv A outer s H vs Q E hr h => ?_)
  · obtain ⟨p, n, d, rfl, _⟩ := h
    rfl
  · obtain ⟨p, n, d, rfl, ⟨dx, hp⟩, hd, sd, kk⟩ := h
    refine ⟨_, pss_one (ps_ret (pe_make M GI hr rfl T.mgC bI .nil pass0 (pa_cons (pe_un un_neg (pe_fld (pv 0) rfl)) (pa_cons (pe_fld (pv 0) rfl) pa_nil)))), ?_⟩
    refine ⟨_, rfl, p, C, dx, _, _, rfl, hp, T.cl, T.nT, rf_top _ _, _, rfl, ?_⟩
    refine ⟨_, rfl, p, C, dx, _, _, rfl, hp, T.cl, T.nB, rf_bot _ _, ?_⟩
    exact make_in hd (Nat.lt_trans sd (Nat.pow_lt_pow_right (by decide) (by decide))) kk
end
end
end RX

set_option Elab.async false
set_option maxRecDepth 100000
namespace RX
open PySem L2
/-! ### the tape -/
abbrev sTape : Stmt := topS 35
theorem scTpe : FnScope ["script", "cell"] ["script"] (defScope sTape) := ⟨rfl, rfl, rfl, by decide +kernel, rfl, by decide +kernel, by decide +kernel⟩
abbrev sNext : Stmt := topS 36
theorem scNxt : FnScope ["tape", "limit", "cell", "found", "seed"] ["tape", "limit"] (defScope sNext) := ⟨rfl, rfl, rfl, by decide +kernel, rfl, by decide +kernel, by decide +kernel⟩
theorem dk {k : Nat} {A : Around} (r : Room k A) : A.units + 1 < cLine := by
  have := r.un
  omega
def tapeD (cl : Addr) (i p t s : Int) : List (Key × V) := [(.inr "cells", .ref cl), (.inr "place", .int i), (.inr "rest", .int p), (.inr "turn", .int t), (.inr "seed", .int s)]
section
variable {cl : Addr} {i p t s v : Int}
theorem kne : (("cells" : Str) ≠ "place" ∧ ("cells" : Str) ≠ "rest" ∧ ("cells" : Str) ≠ "turn" ∧ ("cells" : Str) ≠ "seed") ∧ (("place" : Str) ≠ "rest" ∧ ("place" : Str) ≠ "turn" ∧ ("place" : Str) ≠ "seed") ∧ (("rest" : Str) ≠ "turn" ∧ ("rest" : Str) ≠ "seed") ∧ ("turn" : Str) ≠ "seed" := by decide +kernel
theorem inr_ne {x y : Str} (h : x ≠ y) : ¬ (Sum.inr x : Key) = Sum.inr y := fun z => h (by injection z)
theorem tp_cells : valV (tapeD cl i p t s) (.inr "cells") = some (.ref cl) := by
  unfold tapeD
  rw [valV_pos rfl]
theorem tp_place : valV (tapeD cl i p t s) (.inr "place") = some (.int i) := by
  obtain ⟨⟨a1, a2, a3, a4⟩, ⟨b1, b2, b3⟩, ⟨c1, c2⟩, d1⟩ := kne
  unfold tapeD
  rw [valV_neg (inr_ne a1), valV_pos rfl]
theorem tp_rest : valV (tapeD cl i p t s) (.inr "rest") = some (.int p) := by
  obtain ⟨⟨a1, a2, a3, a4⟩, ⟨b1, b2, b3⟩, ⟨c1, c2⟩, d1⟩ := kne
  unfold tapeD
  rw [valV_neg (inr_ne a2), valV_neg (inr_ne b1), valV_pos rfl]
theorem tp_turn : valV (tapeD cl i p t s) (.inr "turn") = some (.int t) := by
  obtain ⟨⟨a1, a2, a3, a4⟩, ⟨b1, b2, b3⟩, ⟨c1, c2⟩, d1⟩ := kne
  unfold tapeD
  rw [valV_neg (inr_ne a3), valV_neg (inr_ne b2), valV_neg (inr_ne c1), valV_pos rfl]
theorem tp_seed : valV (tapeD cl i p t s) (.inr "seed") = some (.int s) := by
  obtain ⟨⟨a1, a2, a3, a4⟩, ⟨b1, b2, b3⟩, ⟨c1, c2⟩, d1⟩ := kne
  unfold tapeD
  rw [valV_neg (inr_ne a4), valV_neg (inr_ne b3), valV_neg (inr_ne c2), valV_neg (inr_ne d1), valV_pos rfl]
theorem pt_place : putK (tapeD cl i p t s) (.inr "place") (.int v) = tapeD cl v p t s := by
  obtain ⟨⟨a1, a2, a3, a4⟩, ⟨b1, b2, b3⟩, ⟨c1, c2⟩, d1⟩ := kne
  unfold putK tapeD
  simp [a1, b1.symm, b2.symm, b3.symm]
theorem pt_rest : putK (tapeD cl i p t s) (.inr "rest") (.int v) = tapeD cl i v t s := by
  obtain ⟨⟨a1, a2, a3, a4⟩, ⟨b1, b2, b3⟩, ⟨c1, c2⟩, d1⟩ := kne
  unfold putK tapeD
  simp [a2, b1, c1.symm, c2.symm]
theorem pt_turn : putK (tapeD cl i p t s) (.inr "turn") (.int v) = tapeD cl i p v s := by
  obtain ⟨⟨a1, a2, a3, a4⟩, ⟨b1, b2, b3⟩, ⟨c1, c2⟩, d1⟩ := kne
  unfold putK tapeD
  simp [a3, b2, c1, d1.symm]
theorem pt_seed : putK (tapeD cl i p t s) (.inr "seed") (.int v) = tapeD cl i p t v := by
  obtain ⟨⟨a1, a2, a3, a4⟩, ⟨b1, b2, b3⟩, ⟨c1, c2⟩, d1⟩ := kne
  unfold putK tapeD
  simp [a4, b3, c2, d1]
end
/-- the tape stands at a: its cells, the next place, what is left of a great cell, the count of the draws, the seed -/
structure FeedIs (H : Hp) (a cl : Addr) (cs : List Int) (i p t s : Int) : Prop where
  hA : H a = some (.dK (tapeD cl i p t s))
  hC : H cl = some (.lst (cs.map V.int))
  ne : cl ≠ a
  i0 : 0 ≤ i
  p0 : 0 ≤ p
  s0 : 0 ≤ s
  s1 : s < 2147483648
  len : cs.length ≤ 63
  nn : ∀ c ∈ cs, 0 ≤ c
def FeedAt (H : Hp) (a cl : Addr) : Prop := ∃ cs i p t s, FeedIs H a cl cs i p t s
theorem FeedIs.g_cells {H : Hp} {a cl : Addr} {cs : List Int} {i p t s : Int} (h : FeedIs H a cl cs i p t s) : DGet H a (.str "cells") (some (.ref cl)) := by
  have := DGet.k (k := .inr "cells") h.hA
  rw [tp_cells] at this
  exact this
theorem FeedIs.g_place {H : Hp} {a cl : Addr} {cs : List Int} {i p t s : Int} (h : FeedIs H a cl cs i p t s) : DGet H a (.str "place") (some (.int i)) := by
  have := DGet.k (k := .inr "place") h.hA
  rw [tp_place] at this
  exact this
theorem FeedIs.g_rest {H : Hp} {a cl : Addr} {cs : List Int} {i p t s : Int} (h : FeedIs H a cl cs i p t s) : DGet H a (.str "rest") (some (.int p)) := by
  have := DGet.k (k := .inr "rest") h.hA
  rw [tp_rest] at this
  exact this
theorem FeedIs.g_turn {H : Hp} {a cl : Addr} {cs : List Int} {i p t s : Int} (h : FeedIs H a cl cs i p t s) : DGet H a (.str "turn") (some (.int t)) := by
  have := DGet.k (k := .inr "turn") h.hA
  rw [tp_turn] at this
  exact this
theorem FeedIs.g_seed {H : Hp} {a cl : Addr} {cs : List Int} {i p t s : Int} (h : FeedIs H a cl cs i p t s) : DGet H a (.str "seed") (some (.int s)) := by
  have := DGet.k (k := .inr "seed") h.hA
  rw [tp_seed] at this
  exact this
/-- all but what stands at a is as it was -/
def But (a : Addr) (H H' : Hp) : Prop := ∀ b o, H b = some o → b ≠ a → H' b = some o
theorem But.refl (a : Addr) (H : Hp) : But a H H := fun _ _ h _ => h
theorem But.trans {a : Addr} {H H1 H2 : Hp} (x : But a H H1) (y : But a H1 H2) : But a H H2 := fun b o h n => y b o (x b o h n) n
theorem Same.but {a : Addr} {H H1 : Hp} (x : Same H H1) : But a H H1 := fun b o h _ => x b o h
theorem But.upd (a : Addr) (H : Hp) (o : HO) : But a H (L2.upd H a o) := fun b o' h n => by rw [upd_ne n]; exact h
theorem FeedIs.same {H H' : Hp} {a cl : Addr} {cs : List Int} {i p t s : Int} (h : FeedIs H a cl cs i p t s) (x : Same H H') : FeedIs H' a cl cs i p t s :=
  ⟨x _ _ h.hA, x _ _ h.hC, h.ne, h.i0, h.p0, h.s0, h.s1, h.len, h.nn⟩
theorem FeedAt.same {H H' : Hp} {a cl : Addr} (h : FeedAt H a cl) (x : Same H H') : FeedAt H' a cl := let ⟨cs, i, p, t, s, f⟩ := h; ⟨cs, i, p, t, s, f.same x⟩
/-- the tape written anew -/
theorem FeedIs.put {H : Hp} {a cl : Addr} {cs : List Int} {i p t s i' p' t' s' : Int} (h : FeedIs H a cl cs i p t s) (i0 : 0 ≤ i') (p0 : 0 ≤ p') (s0 : 0 ≤ s') (s1 : s' < 2147483648) :
    FeedIs (upd H a (.dK (tapeD cl i' p' t' s'))) a cl cs i' p' t' s' :=
  ⟨upd_same, by rw [upd_ne h.ne]; exact h.hC, h.ne, i0, p0, s0, s1, h.len, h.nn⟩
def spFeed (K : PySem.W.Frag) : Sp := fun vs H Q _ => ∃ (a : Addr) (ns : List Int), vs = [.ref a] ∧ SqL K H a (ns.map V.int) ∧ ns.length ≤ 63 ∧ ∀ (r cl : Addr) (H' : Hp), Same H H' → H r = none → H cl = none → FeedAt H' r cl → Q (.ref r) H'
def spDraw : Sp := fun vs H Q _ => ∃ (a cl : Addr) (m : Int), vs = [.ref a, .int m] ∧ FeedAt H a cl ∧ 0 < m ∧ m < 1073741824 ∧ ∀ (r : Int) (H' : Hp), 0 ≤ r → r < m → FeedAt H' a cl → But a H H' → Q (.int r) H'
structure TxtL (mg : Str → Option Value) : Prop where
  abs : mg "abs" = none
  len : mg "len" = none
  int : mg "int" = none
  max : mg "max" = none
  range : mg "range" = none
  isi : mg "isinstance" = none
  bool : mg "bool" = none
/-- a pair of ints stands at p -/
def PairAt (H : Hp) (p : Addr) (n d : Int) : Prop := H p = some (.tup [.int n, .int d])
theorem PairAt.same {H H' : Hp} {p : Addr} {n d : Int} (h : PairAt H p n d) (s : Same H H') : PairAt H' p n d := s _ _ h
theorem PairAt.t {K : PySem.W.Frag} {H : Hp} {p : Addr} {n d : Int} (h : PairAt H p n d) : SqT K H p [.int n, .int d] := SqT.of h
theorem But.free {a cl : Addr} {H H1 : Hp} {r : Addr} (x : But a H H1) (h : H1 r = none) (f : FeedAt H1 a cl) : H r = none := by
  cases q : H r with
  | none => rfl
  | some o =>
    by_cases e : r = a
    · subst e
      obtain ⟨cs, i, p, t, s, f⟩ := f
      rw [f.hA] at h
      cases h
    · rw [x r o q e] at h
      cases h
/-- a def of the law that is called by its name -/
structure CalN (P : Program) (w : World) (K : PySem.W.Frag) (mg : Str → Option Value) (base : Heap) (x : Str) (k : Nat) (ps : List Str) (sp : Sp) (f : Addr) (fd : FuncData) : Prop where
  G : FnOk P w K mg base CX0 k f fd ps sp
  m : mg x = some (.ref f)
  kp : PySem.W.keepIn K (.ref f) = true
  b : Binds K fd ps []
/-- of at most 500 bits -/
def Ti (x : Int) : Prop := x.natAbs < 2 ^ 500
theorem pw {a b : Nat} (h : a ≤ b) {x : Nat} (hx : x < 2 ^ a) : x < 2 ^ b := Nat.lt_of_lt_of_le hx (Nat.pow_le_pow_right (by decide) h)
theorem mulB {x y : Int} {a b : Nat} (ha : x.natAbs < 2 ^ a) (hb : y.natAbs < 2 ^ b) : (x * y).natAbs < 2 ^ (a + b) := wide_lt ha hb
theorem addB {x y : Int} {a : Nat} (ha : x.natAbs < 2 ^ a) (hb : y.natAbs < 2 ^ a) : (x + y).natAbs < 2 ^ (a + 1) := by
  have := Int.natAbs_add_le x y
  rw [Nat.pow_succ]
  omega
theorem topB {t b : Int} {a : Nat} (h : b ≠ 0) (ha : t.natAbs < 2 ^ a) : (RT.top t b).natAbs < 2 ^ a := Nat.lt_of_le_of_lt (RT.top_le h) ha
theorem botB {t b : Int} {a : Nat} (h : b ≠ 0) (ha : b.natAbs < 2 ^ a) : (RT.bot t b).natAbs < 2 ^ a := Nat.lt_of_le_of_lt (RT.bot_le h) ha
theorem botN {t b : Int} (h : b ≠ 0) : RT.bot t b ≠ 0 := by have := RT.bot_pos (t := t) h; omega
theorem map_range_ext {α : Type} {i : Nat} {f g : Nat → α} (h : ∀ j, j < i → f j = g j) : (List.range i).map f = (List.range i).map g :=
  List.map_congr_left fun j hj => h j (List.mem_range.mp hj)
/-- one more at the end -/
def ext {α : Type} (f : Nat → α) (i : Nat) (x : α) : Nat → α := fun j => if j = i then x else f j
theorem ext_same {α : Type} (f : Nat → α) (i : Nat) (x : α) : ext f i x i = x := if_pos rfl
theorem ext_lt {α : Type} (f : Nat → α) {i j : Nat} (x : α) (h : j < i) : ext f i x j = f j := if_neg (by omega)
theorem map_ext {α : Type} (f : Nat → α) (i : Nat) (x : α) : (List.range (i + 1)).map (ext f i x) = (List.range i).map f ++ [x] := by
  rw [List.range_succ, List.map_append]
  rw [map_range_ext (f := ext f i x) (g := f) fun j h => ext_lt f x h]
  show _ ++ [ext f i x i] = _
  rw [ext_same]
theorem FeedAt.there {H : Hp} {a cl : Addr} (f : FeedAt H a cl) : H a ≠ none := by
  obtain ⟨cs, i, p, t, s, f⟩ := f
  rw [f.hA]; intro z; cases z
theorem FeedAt.lst2 {H : Hp} {a cl : Addr} (h : FeedAt H a cl) : ∃ xs, H cl = some (.lst xs) := let ⟨_, _, _, _, _, f⟩ := h; ⟨_, f.hC⟩
theorem FeedAt.other {H : Hp} {a cl r : Addr} {o : HO} (h : FeedAt H a cl) (h1 : r ≠ a) (h2 : r ≠ cl) : FeedAt (upd H r o) a cl :=
  let ⟨cs, i, p, t, s, f⟩ := h
  ⟨cs, i, p, t, s, by rw [upd_ne h1.symm]; exact f.hA, by rw [upd_ne h2.symm]; exact f.hC, f.ne, f.i0, f.p0, f.s0, f.s1, f.len, f.nn⟩
theorem FeedAt.ne_new {H : Hp} {a cl r : Addr} (h : FeedAt H a cl) (n : H r = none) : r ≠ a ∧ r ≠ cl := by
  obtain ⟨cs, i, p, t, s, f⟩ := h
  exact ⟨(ne_of_none f.hA n).symm, (ne_of_none f.hC n).symm⟩
theorem PairAt.ne {H : Hp} {q R : Addr} {n d : Int} {xs : List V} (h : PairAt H q n d) (h2 : H R = some (.lst xs)) : q ≠ R := ne_of h h2 (by intro z; cases z)
theorem PairAt.other {H : Hp} {q R : Addr} {n d : Int} {o : HO} (h : PairAt H q n d) (ne : q ≠ R) : PairAt (upd H R o) q n d := by
  show upd H R o q = _
  rw [upd_ne ne]
  exact h
theorem PairAt.but {H H' : Hp} {a q : Addr} {n d : Int} (h : PairAt H q n d) (x : But a H H') (ne : q ≠ a) : PairAt H' q n d := x _ _ h ne
theorem RatAt.other {C : Addr} {H : Hp} {q R : Addr} {n d : Int} {o : HO} (h : RatAt C H q n d) (ne : q ≠ R) : RatAt C (upd H R o) q n d := by
  obtain ⟨dx, h⟩ := h
  exact ⟨dx, by rw [upd_ne ne]; exact h⟩
theorem ex1 (x : Int) : V.bl (decide (V.int x = V.int x)) = V.bl true := by rw [decide_eq_true rfl]
section
variable {P : Program} {w : World} {K : PySem.W.Frag} {mg : Str → Option Value} {base : Heap}
theorem cut63 (xs : List V) (h : xs.length ≤ 63) : cutV xs none (some 63) = xs := by
  unfold cutV
  rw [show HT.sIx xs.length xs.length (some 63) = min 63 xs.length from HT.sIx_nat xs.length xs.length 63, HT.sIx_none, Nat.min_eq_right h, List.drop_zero, Nat.sub_zero]
  exact List.take_length
theorem ok_feed {f : Addr} {fd : FuncData} (F : Fun K "_law_tape" "_law_tape" sTape f fd) (T : TxtL mg) : FnOk P w K mg base CX0 1 f fd ["script"] (spFeed K) := by
  refine F.ok scTpe (fun vs H Q E h => ?_) (fun cdv A outer s H vs Q E hr h => ?_)
  · obtain ⟨a, ns, rfl, _⟩ := h
    rfl
  · obtain ⟨a, ns, rfl, hS, hl, k⟩ := h
    refine ⟨_, pss_one (ps_ret (pe_disp (pps_cons pe_str (pe_lc (own := [("cell", 1)]) (g := gName 1) (tt := tYes) rfl scTpe.nd (pi_list (pe_slice sl_list (pv 0) po_none (po_some pe_int))) (blkOk_by (N := ["script", "cell"]) (sc := (defScope sTape)) (by decide +kernel)) (fun _ _ _ _ _ => (pg_name (i := 1) scTpe.nd rfl (.inl rfl))) (fun _ _ _ _ _ => pts_nil) (fun _ _ _ _ _ => (pe_callB call_abs (by rfl) T.abs (by decide +kernel) (pa_cons (pe_callTy call_int1 (by rfl) T.int (by decide +kernel) (pa_cons (pv 1) pa_nil)) pa_nil)))) (pps_cons pe_str pe_int (pps_cons pe_str pe_int (pps_cons pe_str pe_int (pps_cons pe_str pe_int pps_nil))))) (by rfl) (by rfl) (fun z => nomatch z) (by decide))), ?_⟩
    intro r nr
    have s0 : Same H (upd H r (.dK [])) := Same.upd nr
    have hr0 : (upd H r (.dK [])) r = some (.dK []) := upd_same
    generalize upd H r (.dK []) = H1 at *
    refine ⟨.ref a, rfl, 63, rfl, a, ns.map V.int, rfl, s0.seq hS, fun c nc => ?_⟩
    rw [cut63 _ (by rw [List.length_map]; exact hl)]
    have s1 : Same H1 (upd H1 c (.lst (ns.map V.int))) := Same.upd nc
    refine ⟨c, rfl, ⟨_, SqL.of upd_same⟩, fun D nD => ?_⟩
    have ncD : c ≠ D := ne_of_none upd_same nD
    have nD0 : H1 D = none := s1.free nD
    refine lc_list (K := K) (a := c) (xs := ns.map V.int) (fun i H2 => Same H1 H2 ∧ H2 c = some (.lst (ns.map V.int)) ∧ H2 D = some (.lst (((ns.take i).map fun z => if z < 0 then -z else z).map V.int))) ⟨s1.trans (Same.upd nD), by rw [upd_ne ncD]; exact upd_same, upd_same⟩ (fun i H2 _ h => SqL.of h.2.1) ?_ ?_
    · rintro i x H2 hi ⟨s2, hq, hD⟩
      obtain ⟨z, hz, rfl⟩ : ∃ z, ns[i]? = some z ∧ V.int z = x := by
        rw [List.getElem?_map] at hi
        cases e : ns[i]? with
        | none => rw [e] at hi; cases hi
        | some z => rw [e] at hi; exact ⟨z, rfl, Option.some.inj hi⟩
      have hi63 : i < ns.length := (List.getElem?_eq_some_iff.mp hz).1
      refine ⟨rfl, ?_⟩
      refine ⟨_, rfl, .inl ⟨z, rfl, z, rfl, _, hD, ?_, ?_⟩⟩
      · rw [List.length_map, List.length_map, List.length_take]
        exact Nat.lt_of_le_of_lt (Nat.min_le_left _ _) (small1000 (by omega))
      · refine ⟨fun b o e => ?_, by rw [upd_ne ncD]; exact hq, ?_⟩
        · rw [upd_ne (ne_of_none e nD0)]
          exact s2 _ _ e
        · rw [upd_same, List.take_add_one, hz, List.map_append, List.map_append]
          rfl
    · rintro H2 ⟨s2, hq, hD⟩
      rw [List.length_map, List.take_length] at hD
      have hr2 : H2 r = some (.dK []) := s2 _ _ hr0
      have nDr : D ≠ r := fun e => by rw [e] at nD0; rw [nD0] at hr0; cases hr0
      refine ⟨hr2, tapeD D 0 0 0 17, rfl, (by show 5 ≤ 15; decide), ?_⟩
      have em : mergeK [] (tapeD D 0 0 0 17) = tapeD D 0 0 0 17 := by
        obtain ⟨⟨a1, a2, a3, a4⟩, ⟨b1, b2, b3⟩, ⟨c1, c2⟩, d1⟩ := kne
        unfold mergeK tapeD
        simp [putK, a1, a2, a3, a4, b1, b2, b3, c1, c2, d1]
      rw [em]
      refine k r D _ ?_ nr (s0.free nD0) ⟨ns.map fun z => if z < 0 then -z else z, 0, 0, 0, 17, upd_same, by rw [upd_ne nDr]; exact hD, nDr, by omega, by omega, by decide, by decide, by rw [List.length_map]; exact hl, ?_⟩
      · intro b o hb
        rw [upd_ne (ne_of_none hb nr)]
        exact s2 _ _ (s0 _ _ hb)
      · intro c hc
        obtain ⟨z, _, rfl⟩ := List.mem_map.mp hc
        show (0 : Int) ≤ if z < 0 then -z else z
        split <;> omega
theorem ok_draw {f : Addr} {fd : FuncData} (F : Fun K "_law_next" "_law_next" sNext f fd) (T : TxtL mg) : FnOk P w K mg base CX0 1 f fd ["tape", "limit"] spDraw := by
  refine F.ok scNxt (fun vs H Q E h => ?_) (fun cdv A outer s H vs Q E hr h => ?_)
  · obtain ⟨a, cl, m, rfl, _⟩ := h
    rfl
  · obtain ⟨a, cl, m, rfl, ⟨cs, i, p, t, s, f0⟩, hm, hm2, k⟩ := h
    refine ⟨_, pss_cons (ps_asg (pe_op op_add (pe_dget (dk hr) (pv 0) pe_str (fun _ _ => rfl)) pe_int) (pg_sub (pv 0) pe_str (set_dict (dk hr))))
      (C8.pss_cut (ps_if (PW.pt (pw_and (pt_cmpR op_eq (pe_dget (dk hr) (pv 0) pe_str (fun _ _ => rfl)) pe_int (nomark _)) (pw_and1 (pt_cmpR op_lt (pe_dget (dk hr) (pv 0) pe_str (fun _ _ => rfl)) (pe_callB call_len_seq (by rfl) T.len PySem.boot_len (pa_cons (pe_dget (dk hr) (pv 0) pe_str (fun _ _ => rfl)) pa_nil)) (nomark _)))))
        (pss_cons (ps_set (i := 2) scNxt.nd rfl (.inl rfl) (pe_ix ix_list (pe_dget (dk hr) (pv 0) pe_str (fun _ _ => rfl)) (pe_dget (dk hr) (pv 0) pe_str (fun _ _ => rfl)) (fun _ _ => rfl)))
        (pss_cons (ps_asg (pe_op op_add (pe_dget (dk hr) (pv 0) pe_str (fun _ _ => rfl)) pe_int) (pg_sub (pv 0) pe_str (set_dict (dk hr))))
        (pss_one (ps_if (pt_cmpR op_ge (pv 2) (pe_op op_pow pe_int pe_int) (nomark _))
          (pss_one (ps_asg (pv 2) (pg_sub (pv 0) pe_str (set_dict (dk hr)))))
          (pss_one (ps_asg (pe_op op_mod (pe_callTy call_int1 (by rfl) T.int (by decide +kernel) (pa_cons (pe_op op_add (pe_op op_add (pe_op op_mul (pe_dget (dk hr) (pv 0) pe_str (fun _ _ => rfl)) pe_int) (pe_op op_mul (pv 2) pe_int)) pe_int) pa_nil)) pe_int) (pg_sub (pv 0) pe_str (set_dict (dk hr)))))))))
        pss_nil)
      (pss_cons (ps_if (pt_cmpR op_gt (pe_dget (dk hr) (pv 0) pe_str (fun _ _ => rfl)) pe_int (nomark _))
        (pss_cons (ps_set (i := 3) scNxt.nd rfl (.inl rfl) (pe_op op_mod (pe_callTy call_int1 (by rfl) T.int (by decide +kernel) (pa_cons (pe_dget (dk hr) (pv 0) pe_str (fun _ _ => rfl)) pa_nil)) (pv 1)))
        (pss_cons (ps_asg (pe_op op_fdiv (pe_dget (dk hr) (pv 0) pe_str (fun _ _ => rfl)) (pv 1)) (pg_sub (pv 0) pe_str (set_dict (dk hr))))
        (pss_one (ps_ret (pv 3)))))
        pss_nil)
      (pss_cons (ps_set (i := 4) scNxt.nd rfl (.inl rfl) (pe_callTy call_int1 (by rfl) T.int (by decide +kernel) (pa_cons (pe_dget (dk hr) (pv 0) pe_str (fun _ _ => rfl)) pa_nil)))
      (pss_cons (ps_set (i := 4) scNxt.nd rfl (.inl rfl) (pe_op op_mod (pe_callTy call_int1 (by rfl) T.int (by decide +kernel) (pa_cons (pe_op op_add (pe_op op_add (pe_op op_mul (pv 4) (pv 4)) (pe_op op_mul (pe_dget (dk hr) (pv 0) pe_str (fun _ _ => rfl)) pe_int)) pe_int) pa_nil)) pe_int))
      (pss_cons (ps_asg (pe_op op_mod (pe_callTy call_int1 (by rfl) T.int (by decide +kernel) (pa_cons (pe_op op_add (pe_op op_mul (pv 4) pe_int) (pe_dget (dk hr) (pv 0) pe_str (fun _ _ => rfl))) pa_nil)) pe_int) (pg_sub (pv 0) pe_str (set_dict (dk hr))))
      (pss_one (ps_ret (pe_op op_mod (pe_callTy call_int1 (by rfl) T.int (by decide +kernel) (pa_cons (pe_op op_add (pe_op op_fdiv (pv 4) pe_int) (pe_dget (dk hr) (pv 0) pe_str (fun _ _ => rfl))) pa_nil)) (pv 1))))))))), ?_⟩
    have few : ∀ {cl : Addr} {i p t s : Int}, (tapeD cl i p t s).length < sizeLine := by intros; show 5 < sizeLine; decide
    refine ⟨_, rfl, a, .int t, rfl, f0.g_turn, _, _, rfl, rfl, _, rfl, a, _, rfl, .inl ⟨_, .inr "turn", f0.hA, rfl, few, rfl⟩, ?_⟩
    rw [pt_turn]
    have f1 := f0.put (i' := i) (p' := p) (t' := t + 1) (s' := s) f0.i0 f0.p0 f0.s0 f0.s1
    have b1 : But a H (upd H a (.dK (tapeD cl i p (t + 1) s))) := But.upd a H _
    generalize upd H a (.dK (tapeD cl i p (t + 1) s)) = H1 at *
    generalize t + 1 = t1 at *
    refine ⟨fun σ' H' => ∃ x2 x3 x4, σ' = [some (.ref a), some (.int m), x2, x3, x4] ∧ FeedAt H' a cl ∧ But a H H', ?_, ?_⟩
    · refine ⟨_, rfl, a, .int p, rfl, f1.g_rest, rfl, _, rfl, ?_⟩
      refine ite2 (fun _ => ?_) (fun _ => ⟨_, _, _, rfl, ⟨cs, i, p, t1, s, f1⟩, b1⟩)
      refine ⟨_, rfl, a, .int i, rfl, f1.g_place, _, rfl, a, .ref cl, rfl, f1.g_cells, cl, _, rfl, .inl (SqL.of f1.hC), _, _, rfl, rfl, _, rfl, ?_⟩
      refine ite2 (fun z => ?_) (fun _ => ⟨_, _, _, rfl, ⟨cs, i, p, t1, s, f1⟩, b1⟩)
      have z := of_decide_eq_true z
      rw [List.length_map] at z
      have hi : (i.toNat : Int) = i := Int.toNat_of_nonneg f1.i0
      have hlt : i.toNat < cs.length := by omega
      have hc : (cs.map V.int)[i.toNat]? = some (V.int cs[i.toNat]) := by
        rw [List.getElem?_map, List.getElem?_eq_getElem hlt]
        rfl
      have c0 : 0 ≤ cs[i.toNat] := f1.nn _ (List.getElem_mem hlt)
      generalize hcv : cs[i.toNat] = cv at hc c0
      refine ⟨_, rfl, a, .ref cl, rfl, f1.g_cells, _, rfl, a, .int i, rfl, f1.g_place, cl, _, i, _, rfl, rfl, SqL.of f1.hC, at_of hi.symm hc, ?_⟩
      refine ⟨_, rfl, a, .int i, rfl, f1.g_place, _, _, rfl, rfl, _, rfl, a, _, rfl, .inl ⟨_, .inr "place", f1.hA, rfl, few, rfl⟩, ?_⟩
      rw [pt_place]
      have f2 := f1.put (i' := i + 1) (p' := p) (t' := t1) (s' := s) (by have := f1.i0; omega) f1.p0 f1.s0 f1.s1
      have b2 : But a H (upd H1 a (.dK (tapeD cl (i + 1) p t1 s))) := b1.trans (But.upd a H1 _)
      generalize upd H1 a (.dK (tapeD cl (i + 1) p t1 s)) = H2 at *
      refine ⟨_, rfl, _, _, rfl, rfl, (by show (0 : Int) ≤ 18 ∧ (18 : Int) ≤ 1000000 ∧ (10 : Int).natAbs < 2 ^ 64; decide), _, _, rfl, rfl, _, rfl, ?_⟩
      refine ite2 (fun _ => ?_) (fun _ => ?_)
      · refine ⟨_, rfl, _, rfl, a, _, rfl, .inl ⟨_, .inr "rest", f2.hA, rfl, few, rfl⟩, ?_⟩
        rw [pt_rest]
        exact ⟨_, _, _, rfl, ⟨cs, _, _, _, _, f2.put (i' := i + 1) (p' := cv) (t' := t1) (s' := s) (by have := f1.i0; omega) c0 f1.s0 f1.s1⟩, b2.trans (But.upd a _ _)⟩
      · refine ⟨_, rfl, a, .int s, rfl, f2.g_seed, _, _, rfl, rfl, .inr (by decide), _, rfl, _, _, rfl, rfl, .inr (by decide), _, _, rfl, rfl, _, _, rfl, rfl, .inl ⟨_, rfl, _, _, rfl, rfl, (by show (0 : Int) < 2147483647; decide), _, rfl, a, _, rfl, .inl ⟨_, .inr "seed", f2.hA, rfl, few, rfl⟩, ?_⟩⟩
        rw [pt_seed]
        exact ⟨_, _, _, rfl, ⟨cs, _, _, _, _, f2.put (i' := i + 1) (p' := p) (t' := t1) (by have := f1.i0; omega) f1.p0 (Int.emod_nonneg _ (by decide)) (Int.lt_trans (Int.emod_lt_of_pos _ (by decide)) (by decide))⟩, b2.trans (But.upd a _ _)⟩
    · rintro σ' H2 ⟨x2, x3, x4, rfl, ⟨cs, i, p, t, s, f2⟩, b2⟩
      refine ⟨_, rfl, a, .int p, rfl, f2.g_rest, _, _, rfl, rfl, _, rfl, ?_⟩
      refine ite2 (fun _ => ?_) (fun _ => ?_)
      · refine ⟨_, rfl, a, .int p, rfl, f2.g_rest, .inl ⟨_, rfl, _, rfl, _, _, rfl, rfl, hm, ?_⟩⟩
        refine ⟨_, rfl, a, .int p, rfl, f2.g_rest, _, rfl, _, _, rfl, rfl, ⟨hm, hm2⟩, _, rfl, a, _, rfl, .inl ⟨_, .inr "rest", f2.hA, rfl, few, rfl⟩, ?_⟩
        rw [pt_rest]
        refine ⟨_, rfl, ?_⟩
        exact k _ _ (Int.emod_nonneg _ (by omega)) (Int.emod_lt_of_pos _ hm) ⟨cs, _, _, _, _, f2.put (i' := i) (t' := t) (s' := s) f2.i0 (Int.ediv_nonneg f2.p0 (by omega)) f2.s0 f2.s1⟩ (b2.trans (But.upd a _ _))
      · refine ⟨_, rfl, a, .int s, rfl, f2.g_seed, .inl ⟨_, rfl, ?_⟩⟩
        have s0 := f2.s0
        have s1 := f2.s1
        refine ⟨_, rfl, _, rfl, _, _, rfl, rfl, .inl ⟨by omega, by omega⟩, _, rfl, a, .int t, rfl, f2.g_turn, _, _, rfl, rfl, .inr (by decide), _, _, rfl, rfl, _, _, rfl, rfl, .inl ⟨_, rfl, _, _, rfl, rfl, (by show (0 : Int) < 2147483399; decide), ?_⟩⟩
        have e0 := Int.emod_nonneg (s * s + t * 7919 + 101) (show (2147483399 : Int) ≠ 0 by decide)
        have e1 := Int.emod_lt_of_pos (s * s + t * 7919 + 101) (show (0 : Int) < 2147483399 by decide)
        refine ⟨_, rfl, _, _, rfl, rfl, .inr (by decide), _, rfl, a, .int t, rfl, f2.g_turn, _, _, rfl, rfl, .inl ⟨_, rfl, _, _, rfl, rfl, (by show (0 : Int) < 2147483647; decide), _, rfl, a, _, rfl, .inl ⟨_, .inr "seed", f2.hA, rfl, few, rfl⟩, ?_⟩⟩
        rw [pt_seed]
        have g0 := Int.emod_nonneg ((s * s + t * 7919 + 101) % 2147483399 * 40692 + t) (show (2147483647 : Int) ≠ 0 by decide)
        have g1 := Int.emod_lt_of_pos ((s * s + t * 7919 + 101) % 2147483399 * 40692 + t) (show (0 : Int) < 2147483647 by decide)
        have f3 := f2.put (i' := i) (p' := p) (t' := t) (s' := ((s * s + t * 7919 + 101) % 2147483399 * 40692 + t) % 2147483647) f2.i0 f2.p0 g0 (by omega)
        refine ⟨_, rfl, _, _, rfl, rfl, ⟨by decide, by decide⟩, _, rfl, a, .int (((s * s + t * 7919 + 101) % 2147483399 * 40692 + t) % 2147483647), rfl, f3.g_seed, _, _, rfl, rfl, .inl ⟨_, rfl, _, rfl, _, _, rfl, rfl, hm, ?_⟩⟩
        exact k _ _ (Int.emod_nonneg _ (by omega)) (Int.emod_lt_of_pos _ hm) ⟨cs, _, _, _, _, f3⟩ (b2.trans (But.upd a _ _))
end
end RX

set_option Elab.async false
set_option maxRecDepth 100000
namespace RX
open PySem L2
/-! ### rows, tables, what comprehensions build -/
/-- k of them, one after another -/
def refs (k : Nat) (a : Nat → Addr) : List V := (List.range k).map fun i => V.ref (a i)
theorem refs_len (k : Nat) (a : Nat → Addr) : (refs k a).length = k := by unfold refs; rw [List.length_map, List.length_range]
theorem refs_get {k : Nat} {a : Nat → Addr} {i : Nat} (h : i < k) : (refs k a)[i]? = some (.ref (a i)) := by
  unfold refs
  rw [List.getElem?_map, List.getElem?_range h]
  rfl
theorem refs_lt {k : Nat} {a : Nat → Addr} {i : Nat} {x : V} (h : (refs k a)[i]? = some x) : i < k ∧ x = .ref (a i) := by
  have hi : i < k := by
    have := (List.getElem?_eq_some_iff.mp h).1
    rw [refs_len] at this
    exact this
  rw [refs_get hi] at h
  exact ⟨hi, (Option.some.inj h).symm⟩
/-- a tuple of Ratios -/
structure RowAt (C : Addr) (H : Hp) (p : Addr) (k : Nat) (a : Nat → Addr) (n d : Nat → Int) : Prop where
  hp : H p = some (.tup (refs k a))
  r : ∀ i, i < k → RatAt C H (a i) (n i) (d i)
theorem RowAt.same {C : Addr} {H H' : Hp} {p : Addr} {k : Nat} {a : Nat → Addr} {n d : Nat → Int} (h : RowAt C H p k a n d) (s : Same H H') : RowAt C H' p k a n d := ⟨s _ _ h.hp, fun i hi => (h.r i hi).same s⟩
theorem refs_ext (S : Nat → Addr) (i : Nat) (x : Addr) : refs (i + 1) (ext S i x) = refs i S ++ [.ref x] := by
  unfold refs
  rw [List.range_succ, List.map_append]
  rw [map_range_ext (f := fun j => V.ref (ext S i x j)) (g := fun j => V.ref (S j)) fun j h => by rw [ext_lt S x h]]
  show _ ++ [V.ref (ext S i x i)] = _
  rw [ext_same]
/-- a property of an address that stays -/
structure Stays (Pr : Hp → Nat → Addr → Prop) : Prop where
  s : ∀ {H H' : Hp} {j : Nat} {x : Addr}, Same H H' → Pr H j x → Pr H' j x
  u : ∀ {H : Hp} {j : Nat} {x D : Addr} {xs ys : List V}, H D = some (.lst xs) → Pr H j x → Pr (upd H D (.lst ys)) j x
structure Built (Pr : Hp → Nat → Addr → Prop) (H : Hp) (D : Addr) (i : Nat) (S : Nat → Addr) (H2 : Hp) : Prop where
  hD : H2 D = some (.lst (refs i S))
  pr : ∀ j, j < i → Pr H2 j (S j)
  s : Same H H2
theorem built0 {Pr : Hp → Nat → Addr → Prop} {H : Hp} {D : Addr} (nD : H D = none) : Built Pr H D 0 (fun _ => D) (upd H D (.lst [])) :=
  ⟨upd_same, fun _ h => absurd h (by omega), Same.upd nD⟩
theorem Built.step {Pr : Hp → Nat → Addr → Prop} {H H2 H3 : Hp} {D x : Addr} {i : Nat} {S : Nat → Addr} (B : Built Pr H D i S H2) (st : Stays Pr) (nD : H D = none) (s : Same H2 H3) (p : Pr H3 i x) :
    Built Pr H D (i + 1) (ext S i x) (upd H3 D (.lst (refs i S ++ [.ref x]))) := by
  have h3 := s _ _ B.hD
  refine ⟨by rw [upd_same, refs_ext], fun j hj => ?_, fun b o e => by rw [upd_ne (ne_of_none e nD)]; exact s _ _ (B.s _ _ e)⟩
  refine st.u h3 ?_
  by_cases e : j = i
  · subst e; rw [ext_same]; exact p
  · rw [ext_lt S x (by omega)]
    exact st.s s (B.pr j (by omega))
theorem RatAt.ne {C : Addr} {H : Hp} {p D : Addr} {n d : Int} {xs : List V} (h : RatAt C H p n d) (h2 : H D = some (.lst xs)) : p ≠ D := by
  obtain ⟨dx, h⟩ := h
  exact ne_of h h2 (by intro z; cases z)
theorem RowAt.updL {C : Addr} {H : Hp} {p D : Addr} {k : Nat} {a : Nat → Addr} {n d : Nat → Int} {xs ys : List V} (h : RowAt C H p k a n d) (h2 : H D = some (.lst xs)) : RowAt C (upd H D (.lst ys)) p k a n d :=
  ⟨by rw [upd_ne (ne_of h.hp h2 (by intro z; cases z))]; exact h.hp, fun i hi => (h.r i hi).other ((h.r i hi).ne h2)⟩
theorem stays_rat {C : Addr} {n d : Nat → Int} : Stays (fun H j x => RatAt C H x (n j) (d j)) := ⟨fun s h => h.same s, fun h2 h => h.other (h.ne h2)⟩
theorem stays_row {C : Addr} {k : Nat} {n d : Nat → Nat → Int} : Stays (fun H i x => ∃ a, RowAt C H x k a (n i) (d i)) := ⟨fun s ⟨a, h⟩ => ⟨a, h.same s⟩, fun h2 ⟨a, h⟩ => ⟨a, h.updL h2⟩⟩
/-- a table of Ratios -/
structure TabAt (C : Addr) (H : Hp) (p : Addr) (h w : Nat) (R : Nat → Addr) (A : Nat → Nat → Addr) (N D : Nat → Nat → Int) : Prop where
  hp : H p = some (.tup (refs h R))
  r : ∀ i, i < h → RowAt C H (R i) w (A i) (N i) (D i)
theorem TabAt.same {C : Addr} {H H' : Hp} {p : Addr} {h w : Nat} {R : Nat → Addr} {A : Nat → Nat → Addr} {N D : Nat → Nat → Int} (x : TabAt C H p h w R A N D) (s : Same H H') : TabAt C H' p h w R A N D := ⟨s _ _ x.hp, fun i hi => (x.r i hi).same s⟩
/-- a list of pairs -/
structure LineAt (H : Hp) (q : Addr) (k : Nat) (a : Nat → Addr) (n d : Nat → Int) : Prop where
  hq : H q = some (.lst (refs k a))
  p : ∀ i, i < k → PairAt H (a i) (n i) (d i)
theorem LineAt.same {H H' : Hp} {q : Addr} {k : Nat} {a : Nat → Addr} {n d : Nat → Int} (h : LineAt H q k a n d) (s : Same H H') : LineAt H' q k a n d := ⟨s _ _ h.hq, fun i hi => (h.p i hi).same s⟩
/-- a list of lists of pairs -/
structure LinesAt (H : Hp) (q : Addr) (h w : Nat) (R : Nat → Addr) (A : Nat → Nat → Addr) (N D : Nat → Nat → Int) : Prop where
  hq : H q = some (.lst (refs h R))
  r : ∀ i, i < h → LineAt H (R i) w (A i) (N i) (D i)
theorem LinesAt.same {H H' : Hp} {q : Addr} {h w : Nat} {R : Nat → Addr} {A : Nat → Nat → Addr} {N D : Nat → Nat → Int} (x : LinesAt H q h w R A N D) (s : Same H H') : LinesAt H' q h w R A N D := ⟨s _ _ x.hq, fun i hi => (x.r i hi).same s⟩
theorem Built.tab {C : Addr} {H H4 : Hp} {D : Addr} {h k : Nat} {S : Nat → Addr} {n d : Nat → Nat → Int} (B : Built (fun H i x => ∃ a, RowAt C H x k a (n i) (d i)) H D h S H4) {r : Addr} (nr : H4 r = none) :
    ∃ A, TabAt C (upd H4 r (.tup (refs h S))) r h k S A n d := by
  have s5 : Same H4 (upd H4 r (.tup (refs h S))) := Same.upd nr
  have ch : ∀ i, ∃ a, i < h → RowAt C H4 (S i) k a (n i) (d i) := fun i => by
    by_cases hi : i < h
    · obtain ⟨a, ha⟩ := B.pr i hi
      exact ⟨a, fun _ => ha⟩
    · exact ⟨fun _ => 0, fun h => absurd h hi⟩
  obtain ⟨B2, hB2⟩ := Classical.axiomOfChoice ch
  exact ⟨B2, upd_same, fun i hi => (hB2 i hi).same s5⟩
theorem LineAt.ne {H : Hp} {q F : Addr} {k : Nat} {a : Nat → Addr} {n d : Nat → Int} {xs : List V} (h : LineAt H q k a n d) (hF : H F = some (.lst xs)) : ∀ i, i < k → a i ≠ F := fun i hi => (h.p i hi).ne hF
theorem LineAt.other {H : Hp} {q F : Addr} {k : Nat} {a : Nat → Addr} {n d : Nat → Int} {xs : List V} {o : HO} (h : LineAt H q k a n d) (hF : H F = some (.lst xs)) (ne : q ≠ F) : LineAt (upd H F o) q k a n d :=
  ⟨by rw [upd_ne ne]; exact h.hq, fun i hi => (h.p i hi).other (h.ne hF i hi)⟩
theorem LineAt.but {H H' : Hp} {q F : Addr} {k : Nat} {a : Nat → Addr} {n d : Nat → Int} {xs : List V} (h : LineAt H q k a n d) (b : But F H H') (hF : H F = some (.lst xs)) (ne : q ≠ F) : LineAt H' q k a n d :=
  ⟨b _ _ h.hq ne, fun i hi => (h.p i hi).but b (h.ne hF i hi)⟩
theorem LinesAt.but {H H' : Hp} {q F : Addr} {h w : Nat} {R : Nat → Addr} {A : Nat → Nat → Addr} {N D : Nat → Nat → Int} {xs : List V} (x : LinesAt H q h w R A N D) (b : But F H H') (hF : H F = some (.lst xs)) (ne : q ≠ F) (nr : ∀ i, i < h → R i ≠ F) : LinesAt H' q h w R A N D :=
  ⟨b _ _ x.hq ne, fun i hi => (x.r i hi).but b hF (nr i hi)⟩
theorem refs_last (k : Nat) (a : Nat → Addr) : atI (refs (k + 1) a) (-1) = some (.ref (a k)) := by
  have : refs (k + 1) a = refs k a ++ [.ref (a k)] := by
    unfold refs
    rw [List.range_succ, List.map_append]
    rfl
  rw [this]
  exact atI_last _ _
def rTupO (K : PySem.W.Frag) : List V → Hp → VK → Prop := fun xs H Q => ∃ p ys, xs = [.ref p] ∧ ((SqL K H p ys ∧ ∀ l : Addr, H l = none → Q (.ref l) (upd H l (.tup ys))) ∨ SqT K H p ys ∧ Q (.ref p) H)
theorem call_tupK {X : Cx} : CallR X (.type "tuple") (rTupO X.K) := call_tuple_of
structure TxtP (mg : Str → Option Value) : Prop where
  zip : mg "zip" = none
  lcm : mg "lcm" = some (.builtin "math.lcm")
  tup : mg "tuple" = none
  list : mg "list" = none
  range : mg "range" = none
end RX

set_option Elab.async false
set_option maxRecDepth 100000
/-! // by a divisor of any size: the room that it wants, from the head on -/
namespace PL
open PySem PySem.Spec PyProof.Rows L2
/-- what // of great numbers asks of program and base -/
structure Big (P : Program) (base : Heap) : Prop where
  ns : base.NoSeer
  tr : P.given.tree = none
/-- the frame on top is a plain one -/
def Plain (X : Cx) : Prop := ∃ e l, X.stack = e :: l ∧ e.scope.isGenerator = false ∧ e.scope.isCoroutine = false ∧ e.builtins = builtinsNs ∧ e.globals = mainGlobals
theorem room {X : Cx} {pins : List (Addr × Obj)} {σ : L2.St} {H : Hp} {s : Shared} (B : Big X.prog X.base) (hr : Room 32 X.A) (hp : Plain X) (I : Inv X pins σ H s) : PylongRoom (model X.prog X.w) X.A s := by
  obtain ⟨e, l, h1, h2, h3, h4, h5⟩ := hp
  have fr := I.ok.frames
  rw [h1] at fr
  have sr : SeerAt (model X.prog X.w) X.A s.heap := SeerAt.of (B.ns.keeps I.bk) B.tr fr h2 h3 h4 h5
  refine PylongRoom.of I.nolimit ?_ sr
  have := hr.dp
  show X.A.depth + 100 < recursionLimit
  omega
theorem op_fdivP {X : Cx} (B : Big X.prog X.base) (hr : Room 32 X.A) (hp : Plain X) : OpR X (binaryOp .FloorDiv) (rI (fun _ j => j ≠ 0) fun i j => .int (i.fdiv j)) := by
  intro pins s σ H x y v u Q I rx ry ⟨i, j, ex, ey, hj, q⟩
  subst ex ey
  obtain ⟨t, rfl⟩ := rx
  obtain ⟨t', rfl⟩ := ry
  exact floordiv_int hj ⟨.int (i.fdiv j), H, I.tok _, ⟨_, rfl⟩, q⟩ (.inr (room B hr hp I))
/-- the law's call, with the room for great divisions told of the base -/
theorem big_call {P : Program} {w : World} {K : PySem.W.Frag} {mg mb : Str → Option Value} {CX : CXT} {k : Nat} {fa a : Addr} {fd : FuncData} {x : Str} {sp : Sp} {s : Shared} {us : List Value} {ns : List Int} (hS : s.heap.NoSeer)
    (hK : K.In s.heap) (h1 : s.heap.Ns mainGlobals mg) (h2 : s.heap.Ns builtinsNs mb) (h3 : ∀ x : Str, x ≠ "__name__" → mb x = bootBuiltins x) (h4 : s.heap.NoLimit) (h5 : s.gens = #[])
    (h6 : s.heap.get? a = some { cls := .type "list", data := .seq us.toArray }) (h7 : IntsAre us ns) (h8 : ns.length ≤ sizeLine) (h9 : Room k callerA)
    (F : ∀ base : Heap, K.In base → base.Ns mainGlobals mg → base.NoSeer → FnOk P w K mg base CX k fa fd [x] sp) (hb : ∀ (s : Shared) (u : Value), BindsTo s fd ⟨[u], []⟩ [(x, u)])
    (hsp : ∀ H : Hp, Only H → SqL K H a (ns.map V.int) → sp [.ref a] H (fun v _ => v = .bl true) fun _ _ _ => False)
    (hc : ∀ H e s', CX [] H s (fun _ _ _ => False) e s' → False) :
    codeAny (model P w) callerA (.call (.ref fa) ⟨[.ref a], []⟩) (fun r s' => r = .ok (.ret (.bool true)) ∧ OldK s.heap s'.heap ∧ s'.os = s.os ∧ AllBare s'.gens) s := by
  have rel := vals_ints h7
  -- what is tracked: the script, where the written part has it not
  let fz : HO := .frz { cls := .type "list", data := .seq us.toArray } (.lst (ns.map V.int))
  let H : Hp := fun b => if b = a then (if (K.lookup a).isSome then none else some fz) else none
  have Hn : ∀ {b : Addr}, b ≠ a → H b = none := fun n => if_neg n
  have Hs : ∀ {b : Addr} {u : HO}, H b = some u → b = a ∧ u = fz ∧ K.lookup a = none := fun {b u} z => by
    by_cases e : b = a
    · subst e
      have z : (if b = b then (if (K.lookup b).isSome then none else some fz) else none) = some u := z
      rw [if_pos rfl] at z
      cases q : K.lookup b with
      | none =>
        rw [q] at z
        exact ⟨rfl, (Option.some.inj z).symm, rfl⟩
      | some o => rw [q] at z; cases z
    · rw [Hn e] at z; cases z
  have only : Only H := fun b => by
    cases q : H b with
    | none => exact .inl rfl
    | some u => exact .inr ⟨_, _, congrArg some (Hs q).2.1⟩
  have old : ∀ {b : Addr} {o : Obj}, s.heap.get? b = some o → b ≠ a → (hidT s.heap H).get? b = some o := fun e n => hidT_get e (Hn n)
  have notA : ∀ {b : Addr} {o : Obj}, s.heap.get? b = some o → (∀ vs n, o.data ≠ .seq vs n) → b ≠ a := fun {b o} e d z => by
    rw [z, h6] at e
    exact d _ _ (congrArg Obj.data (Option.some.inj e)).symm
  have dictA : ∀ {b : Addr} {m : Str → Option Value}, s.heap.Ns b m → (hidT s.heap H).Ns b m := fun {b m} z => by
    obtain ⟨o, es, ep, e, d, r⟩ := z
    exact ⟨o, es, ep, old e (notA e fun vs n y => by rw [d] at y; cases y), d, r⟩
  have kin : K.In (hidT s.heap H) := fun b o e => by
    have e1 := hK b o e
    cases q : H b with
    | none => exact hidT_get e1 q
    | some u =>
      obtain ⟨rfl, _, y⟩ := Hs q
      rw [y] at e; cases e
  have lim : (hidT s.heap H).NoLimit := by
    obtain ⟨mc, l1, l2⟩ := h4
    exact ⟨mc, dictA l1, l2⟩
  have seer : (hidT s.heap H).NoSeer := by
    obtain ⟨⟨m1, a1, b1⟩, ⟨m2, a2, b2⟩, ⟨m3, a3, b3⟩, ⟨m4, bm, ob, a4, b4, c4, d4, e4⟩⟩ := hS
    refine ⟨⟨m1, dictA a1, b1⟩, ⟨m2, dictA a2, b2⟩, ⟨m3, dictA a3, b3⟩, ⟨m4, bm, ob, dictA a4, b4, old c4 (fun z => ?_), d4, e4⟩⟩
    rw [z, h6] at c4
    rw [← Option.some.inj c4] at d4
    have d5 : Value.type "list" = Value.type "module" := d4
    injection d5 with d5
    exact absurd d5 (by decide)
  have md : Mod K mg (hidT s.heap H) := ⟨kin, dictA h1, ⟨mb, dictA h2, h3⟩, lim⟩
  have hok : HOk P w H s.heap := fun b u z => by
    obtain ⟨rfl, rfl, _⟩ := Hs z
    exact ⟨h6, by rw [List.length_map]; exact h8, us, _, rel, h6⟩
  have sq : SqL K H a (ns.map V.int) := by
    cases q : K.lookup a with
    | none =>
      refine .inl (.inr ⟨{ cls := .type "list", data := .seq us.toArray }, ?_⟩)
      show (if a = a then (if (K.lookup a).isSome then none else some fz) else none) = _
      rw [if_pos rfl, q]
      rfl
    | some o =>
      have e1 := (hK a o q).symm.trans h6
      obtain rfl := Option.some.inj e1
      exact .inr ⟨_, us.toArray, _, q, rfl, rfl, rfl, by rw [List.size_toArray, h7.length]; exact h8, by simpa using rel⟩
  have env : Env0 P w K mg (hidT s.heap H) callerA [] s H := ⟨rfl, md, fun b o e => of_hidT e, Nat.le_of_eq (hidT_size _ _), trivial, (fun b z => nomatch z), hok, .of_eq h5⟩
  refine codeAny_mono ((F _ kin (dictA h1) seer).run callerA [] s H ⟨[.ref a], []⟩ [.ref a] [.ref a] _ _ h9 env (hb s (.ref a)) (.cons rfl .nil) (hsp H only sq)) fun r s' z => ?_
  match r, z with
  | .error e, z => exact (hc H e s' z).elim
  | .ok .next, z => exact z.elim
  | .ok .brk, z => exact z.elim
  | .ok .cont, z => exact z.elim
  | .ok (.ret u), z =>
    obtain ⟨v, H', os, bare, un, hok', ru, ev⟩ := z
    have ev : v = .bl true := ev
    subst ev
    have ru : u = Value.bool true := ru
    subst ru
    refine ⟨rfl, OldK.of_keep fun b o e => ?_, os, bare⟩
    cases q : H b with
    | none => exact un.keep b o e q (fun y => by cases y) (fun y => by cases y)
    | some u2 =>
      obtain ⟨rfl, rfl, _⟩ := Hs q
      have y1 := (hok b _ q).1
      have y2 := (hok' b _ (un.frzs b _ _ q)).1
      exact y2.trans (y1.symm.trans e)
theorem big_walk {l : PySem.W.OpenLaw} {n k : Nat} {q : Program} {loose : List Str} {XP : (Str → Option Value) → Heap → Prop} {YP : World → Heap → Prop} {d : DefRec} {K : Params → PySem.W.Frag} {CX : World → CXT} {sp : World → Sp} {x : Str}
    (hi : importsNone q = true) (h1 : l.most = some n) (h2 : n ≤ sizeLine) (h3 : d.params.defaults = []) (hr : Room k callerA)
    (hY : ∀ (w : World) (h : Heap), YP w h → (K w.params).In h)
    (F : ∀ (w : World) (mg : Str → Option Value) (fa : Addr) (h : Heap), (K w.params).In h → h.Ns mainGlobals mg → mg d.name = some (.ref fa) →
      ∃ fd : FuncData, (∀ (s : Shared) (u : Value), BindsTo s fd ⟨[u], []⟩ [(x, u)]) ∧
        ∀ base : Heap, (K w.params).In base → base.Ns mainGlobals mg → base.NoSeer → FnOk l.prog w (K w.params) mg base (CX w) k fa fd [x] (sp w))
    (hsp : ∀ (w : World) (H : Hp) (a : Addr) (ns : List Int), ns.length ≤ n → Only H → SqL (K w.params) H a (ns.map V.int) → sp w [.ref a] H (fun v _ => v = .bl true) fun _ _ _ => False)
    (hC : ∀ (w : World) (H : Hp) (s : Shared) (e : Value) (s' : Shared), CX w [] H s (fun _ _ _ => False) e s' → False) :
    PySem.W.WalkO q loose XP YP l.row.toRowW d [] (fun f vs => PySem.call f vs) := by
  refine Att.attach_call h1 h3 fun w s0 s mg mb fa o pm cd doc a us ns G Y _ _ _ gf ga gi gl gg => ?_
  obtain ⟨fd, hb, hF⟩ := F w mg fa _ (hY w _ Y) G.T.g gf
  exact big_call (G.T.seer hi) (hY w _ Y) G.T.g G.T.b G.T.builtins G.T.nolimit gg ga gi (Nat.le_trans gl h2) hr hF hb (fun H o z => hsp w H a ns gl o z) fun H e s' => hC w H s e s'
end PL

set_option Elab.async false
set_option maxRecDepth 100000
/-! Ratios as numbers, of any size that the model holds -/
namespace RQ
open PySem L2
def Bt (b : Nat) (x : Int) : Prop := x.natAbs < 2 ^ b
theorem Bt.up {a b : Nat} {x : Int} (h : Bt a x) (l : a ≤ b) : Bt b x := Nat.lt_of_lt_of_le h (Nat.pow_le_pow_right (by decide) l)
theorem Bt.mul {a b : Nat} {x y : Int} (h : Bt a x) (k : Bt b y) : Bt (a + b) (x * y) := by
  unfold Bt
  rw [Int.natAbs_mul, Nat.pow_add]
  exact Nat.mul_lt_mul'' h k
theorem Bt.add {a : Nat} {x y : Int} (h : Bt a x) (k : Bt a y) : Bt (a + 1) (x + y) := by
  unfold Bt at *
  have := Int.natAbs_add_le x y
  rw [Nat.pow_succ]
  omega
theorem Bt.sub {a : Nat} {x y : Int} (h : Bt a x) (k : Bt a y) : Bt (a + 1) (x - y) := by
  unfold Bt at *
  have := Int.natAbs_sub_le x y
  rw [Nat.pow_succ]
  omega
theorem Bt.neg {a : Nat} {x : Int} (h : Bt a x) : Bt a (-x) := by
  unfold Bt at *
  rw [Int.natAbs_neg]
  exact h
theorem Bt.le {a : Nat} {x y : Int} (h : Bt a x) (l : y.natAbs ≤ x.natAbs) : Bt a y := Nat.lt_of_le_of_lt l h
theorem Bt.log {a : Nat} {x : Int} (h : Bt a x) : x.natAbs.log2 ≤ a := by
  by_cases z : x.natAbs = 0
  · rw [z]; exact Nat.zero_le _
  · exact Nat.le_of_lt ((Nat.log2_lt z).mpr h)
/-- of at most sixty million bits -/
def Hg (x : Int) : Prop := ∃ b, b ≤ 60000000 ∧ Bt b x
theorem Bt.hg {a : Nat} {x : Int} (h : Bt a x) (l : a ≤ 60000000) : Hg x := ⟨a, l, h⟩
def CMulH (i j : Int) : Prop := Hg i ∧ Hg j
theorem CMulH.ok {i j : Int} (h : CMulH i j) : IntMulOk i j := by
  obtain ⟨⟨a, la, ha⟩, ⟨b, lb, hb⟩⟩ := h
  have ia : ∀ z : Int, Builtin.Int.intBits z ≤ z.natAbs.log2 + 1 := fun z => by unfold Builtin.Int.intBits; split <;> omega
  have e1 := ia i
  have e2 := ia j
  have e3 := ha.log
  have e4 := hb.log
  have line : bitsLine = 134217728 := by decide
  unfold IntMulOk
  intro y
  have y := (Bool.and_eq_true_iff.mp y).2
  unfold Builtin.Int.intTooBig at y
  have y := of_decide_eq_true y
  rw [line] at y
  omega
theorem op_mulH {X : Cx} : OpR X (binaryOp .Mult) (rI CMulH fun i j => .int (i * j)) := opI fun _ _ _ _ _ _ _ hc q => PyProof.Rows.mul_int q hc.ok
/-! ### numbers -/
theorem den0 (q : Rat) : ((q.den : Int) : Rat) ≠ 0 := fun z => q.den_nz (by
  have : ((q.den : Int) : Rat) = ((0 : Int) : Rat) := z
  have := Rat.intCast_inj.mp this
  omega)
theorem nd (q : Rat) : (q.num : Rat) = q * ((q.den : Int) : Rat) := by
  have e : (q.num : Rat) / ((q.den : Int) : Rat) = q := by rw [← Rat.divInt_eq_div, Rat.num_divInt_den]
  have d := den0 q
  grind
theorem i0 {b : Int} (h : b ≠ 0) : (b : Rat) ≠ 0 := fun z => h (Rat.intCast_inj.mp (by rw [z]; rfl))
/-- lowest terms of t / b -/
theorem low {t b : Int} (h : b ≠ 0) {q : Rat} (e : (t : Rat) = q * (b : Rat)) : RT.top t b = q.num ∧ RT.bot t b = (q.den : Int) := by
  have d0 : 0 < (q.den : Int) := by have := q.den_pos; omega
  refine RT.uniq (RT.bot_pos h) d0 (RT.cop h) (by rw [Int.natAbs_natCast]; exact q.reduced) ?_
  have c := RT.cross (t := t) h
  have c' : ((RT.top t b : Int) : Rat) * (b : Rat) = (t : Rat) * ((RT.bot t b : Int) : Rat) := by rw [← Rat.intCast_mul, c, Rat.intCast_mul]
  have n1 := nd q
  have b0 := i0 h
  refine Rat.intCast_inj.mp ?_
  rw [Rat.intCast_mul, Rat.intCast_mul]
  grind
theorem num0 {q : Rat} : q.num = 0 ↔ q = 0 := Rat.num_eq_zero
/-- z over m is the number -/
theorem den_dvd {q : Rat} {z m : Int} (h : m ≠ 0) (e : (z : Rat) = q * (m : Rat)) : (q.den : Int) ∣ m ∧ q.num ∣ z := by
  obtain ⟨e1, e2⟩ := low h e
  rw [← e1, ← e2]
  exact ⟨⟨RT.byv z m, (RT.bot_mul h).symm⟩, ⟨RT.byv z m, (RT.top_mul h).symm⟩⟩
end RQ

set_option exponentiation.threshold 100000
namespace RT
/-- the sum of the products of n / d with m / e, each step in lowest terms -/
def due (n d m e : Nat → Int) : Nat → Int × Int
  | 0 => (0, 1)
  | k + 1 => if n k ≠ 0 ∧ m k ≠ 0 then
      (top ((due n d m e k).1 * bot (n k * m k) (d k * e k) + top (n k * m k) (d k * e k) * (due n d m e k).2) ((due n d m e k).2 * bot (n k * m k) (d k * e k)),
       bot ((due n d m e k).1 * bot (n k * m k) (d k * e k) + top (n k * m k) (d k * e k) * (due n d m e k).2) ((due n d m e k).2 * bot (n k * m k) (d k * e k)))
    else due n d m e k
theorem due_yes {n d m e : Nat → Int} {k : Nat} (h1 : n k ≠ 0) (h2 : m k ≠ 0) : due n d m e (k + 1) =
    (top ((due n d m e k).1 * bot (n k * m k) (d k * e k) + top (n k * m k) (d k * e k) * (due n d m e k).2) ((due n d m e k).2 * bot (n k * m k) (d k * e k)),
       bot ((due n d m e k).1 * bot (n k * m k) (d k * e k) + top (n k * m k) (d k * e k) * (due n d m e k).2) ((due n d m e k).2 * bot (n k * m k) (d k * e k))) := if_pos ⟨h1, h2⟩
theorem due_no {n d m e : Nat → Int} {k : Nat} (h : ¬ (n k ≠ 0 ∧ m k ≠ 0)) : due n d m e (k + 1) = due n d m e k := if_neg h
abbrev BB : Nat := 2 ^ 134
/-- of at most 67 bits, the bottom above 0 -/
structure Fr (x y : Int) : Prop where
  n : x.natAbs < 2 ^ 67
  d : y.natAbs < 2 ^ 67
  p : 0 < y
structure DueOk (k : Nat) (p : Int × Int) : Prop where
  pos : 0 < p.2
  co : Nat.Coprime p.1.natAbs p.2.natAbs
  bot : p.2.natAbs ≤ BB ^ k
  top : p.1.natAbs ≤ k * BB * p.2.natAbs
theorem prod_lt {x y : Int} (h : x.natAbs < 2 ^ 67) (h' : y.natAbs < 2 ^ 67) : (x * y).natAbs ≤ BB := by
  rw [Int.natAbs_mul]
  have := Nat.mul_lt_mul'' h h'
  rw [← Nat.pow_add] at this
  exact Nat.le_of_lt this
theorem due_step {k : Nat} {p : Int × Int} (h : DueOk k p) {x y : Int} (hy : 0 < y) (x1 : x.natAbs ≤ BB) (y1 : y.natAbs ≤ BB) :
    DueOk (k + 1) (RT.top (p.1 * y + x * p.2) (p.2 * y), RT.bot (p.1 * y + x * p.2) (p.2 * y)) := by
  have hD : p.2 * y ≠ 0 := Int.mul_ne_zero (by have := h.pos; omega) (by omega)
  have hDp : 0 < (p.2 * y).natAbs := Int.natAbs_pos.mpr hD
  refine ⟨bot_pos hD, cop hD, ?_, ?_⟩
  · refine Nat.le_trans (bot_le hD) ?_
    rw [Int.natAbs_mul, Nat.pow_succ]
    exact Nat.mul_le_mul h.bot y1
  · have c := cross (t := p.1 * y + x * p.2) hD
    have c' : (RT.top (p.1 * y + x * p.2) (p.2 * y)).natAbs * (p.2 * y).natAbs = (p.1 * y + x * p.2).natAbs * (RT.bot (p.1 * y + x * p.2) (p.2 * y)).natAbs := by rw [← Int.natAbs_mul, c, Int.natAbs_mul]
    have t1 : (p.1 * y + x * p.2).natAbs ≤ (k + 1) * BB * (p.2 * y).natAbs := by
      refine Nat.le_trans (Int.natAbs_add_le _ _) ?_
      rw [Int.natAbs_mul, Int.natAbs_mul, Int.natAbs_mul]
      have a1 : p.1.natAbs * y.natAbs ≤ k * BB * p.2.natAbs * y.natAbs := Nat.mul_le_mul_right _ h.top
      have a2 : x.natAbs * p.2.natAbs ≤ BB * p.2.natAbs * y.natAbs := by
        have : 1 ≤ y.natAbs := by omega
        refine Nat.le_trans (Nat.mul_le_mul_right _ x1) ?_
        exact Nat.le_mul_of_pos_right _ this
      have : (k + 1) * BB * (p.2.natAbs * y.natAbs) = k * BB * p.2.natAbs * y.natAbs + BB * p.2.natAbs * y.natAbs := by
        rw [Nat.add_mul, Nat.add_mul, Nat.one_mul]
        congr 1 <;> ac_rfl
      rw [this]
      exact Nat.add_le_add a1 a2
    refine Nat.le_of_mul_le_mul_right ?_ hDp
    show (RT.top (p.1 * y + x * p.2) (p.2 * y)).natAbs * (p.2 * y).natAbs ≤ (k + 1) * BB * (RT.bot (p.1 * y + x * p.2) (p.2 * y)).natAbs * (p.2 * y).natAbs
    rw [c']
    have := Nat.mul_le_mul_right (RT.bot (p.1 * y + x * p.2) (p.2 * y)).natAbs t1
    refine Nat.le_trans this (Nat.le_of_eq ?_)
    ac_rfl
theorem DueOk.up {k : Nat} {p : Int × Int} (h : DueOk k p) : DueOk (k + 1) p :=
  ⟨h.pos, h.co, Nat.le_trans h.bot (Nat.pow_le_pow_right (by decide) (by omega)), Nat.le_trans h.top (Nat.mul_le_mul_right _ (Nat.mul_le_mul_right _ (by omega)))⟩
theorem due_ok {n d m e : Nat → Int} : ∀ {k : Nat}, (∀ j, j < k → Fr (n j) (d j) ∧ Fr (m j) (e j)) → DueOk k (due n d m e k)
  | 0, _ => ⟨show (0 : Int) < 1 by decide, Nat.coprime_one_right _, show 1 ≤ 1 by decide, Nat.zero_le _⟩
  | k + 1, h => by
    have i := due_ok (k := k) fun j hj => h j (by omega)
    obtain ⟨f1, f2⟩ := h k (by omega)
    by_cases z : n k ≠ 0 ∧ m k ≠ 0
    · rw [due_yes z.1 z.2]
      have hb : d k * e k ≠ 0 := Int.mul_ne_zero (by have := f1.p; omega) (by have := f2.p; omega)
      exact due_step i (bot_pos hb) (Nat.le_trans (top_le hb) (prod_lt f1.n f2.n)) (Nat.le_trans (bot_le hb) (prod_lt f1.d f2.d))
    · rw [due_no z]
      exact i.up
/-- the running sum over one bottom -/
structure SumAt (n d m e : Nat → Int) (k : Nat) (t b : Int) : Prop where
  pos : 0 < b
  bot : b.natAbs ≤ BB ^ k
  top : t.natAbs ≤ k * BB * b.natAbs
  eq : t * (due n d m e k).2 = (due n d m e k).1 * b
def lcmI (x y : Int) : Int := ((Nat.lcm x.natAbs y.natAbs : Nat) : Int)
theorem lcm_l (x y : Int) : x ∣ lcmI x y := by
  unfold lcmI
  exact Int.natAbs_dvd_natAbs.mp (by rw [Int.natAbs_natCast]; exact Nat.dvd_lcm_left _ _)
theorem lcm_r (x y : Int) : y ∣ lcmI x y := by
  unfold lcmI
  exact Int.natAbs_dvd_natAbs.mp (by rw [Int.natAbs_natCast]; exact Nat.dvd_lcm_right _ _)
theorem lcm_pos {x y : Int} (hx : 0 < x) (hy : 0 < y) : 0 < lcmI x y := by
  unfold lcmI
  have : 0 < Nat.lcm x.natAbs y.natAbs := Nat.lcm_pos (by omega) (by omega)
  omega
theorem lcm_le {x y : Int} (hx : 0 < x) (hy : 0 < y) : (lcmI x y).natAbs ≤ x.natAbs * y.natAbs := by
  unfold lcmI
  rw [Int.natAbs_natCast]
  exact Nat.le_of_dvd (Nat.mul_pos (by omega) (by omega)) (Nat.lcm_dvd_mul _ _)
theorem sum_zero {n d m e : Nat → Int} : SumAt n d m e 0 0 1 := ⟨by decide, by decide, by decide, by rfl⟩
theorem sum_no {n d m e : Nat → Int} {k : Nat} {t b : Int} (h : SumAt n d m e k t b) (z : n k * m k = 0) : SumAt n d m e (k + 1) t b := by
  refine ⟨h.pos, Nat.le_trans h.bot (Nat.pow_le_pow_right (by decide) (by omega)), Nat.le_trans h.top (Nat.mul_le_mul_right _ (Nat.mul_le_mul_right _ (by omega))), ?_⟩
  rw [due_no (fun ⟨x, y⟩ => Int.mul_ne_zero x y z)]
  exact h.eq
theorem sum_yes {n d m e : Nat → Int} {k : Nat} {t b : Int} (h : SumAt n d m e k t b) (f : ∀ j, j < k + 1 → Fr (n j) (d j) ∧ Fr (m j) (e j)) (z : n k * m k ≠ 0) :
    SumAt n d m e (k + 1) (t * (lcmI b (d k * e k)).fdiv b + n k * m k * (lcmI b (d k * e k)).fdiv (d k * e k)) (lcmI b (d k * e k)) := by
  obtain ⟨f1, f2⟩ := f k (by omega)
  have hb : 0 < d k * e k := Int.mul_pos f1.p f2.p
  have hL := lcm_pos h.pos hb
  have c1 := fdiv_of_dvd (by have := h.pos; omega) (lcm_l b (d k * e k))
  have c2 := fdiv_of_dvd (by omega) (lcm_r b (d k * e k))
  have hle := lcm_le h.pos hb
  generalize lcmI b (d k * e k) = L at *
  generalize L.fdiv b = q1 at *
  generalize L.fdiv (d k * e k) = q2 at *
  have dk := due_ok (n := n) (d := d) (m := m) (e := e) (k := k) fun j hj => f j (by omega)
  refine ⟨hL, ?_, ?_, ?_⟩
  · rw [Nat.pow_succ]
    exact Nat.le_trans hle (Nat.mul_le_mul h.bot (prod_lt f1.d f2.d))
  · refine Nat.le_trans (Int.natAbs_add_le _ _) ?_
    have e1 : q1.natAbs * b.natAbs = L.natAbs := by rw [← Int.natAbs_mul, c1]
    have e2 : q2.natAbs * (d k * e k).natAbs = L.natAbs := by rw [← Int.natAbs_mul, c2]
    have a1 : (t * q1).natAbs ≤ k * BB * L.natAbs := by
      rw [Int.natAbs_mul, ← e1]
      refine Nat.le_trans (Nat.mul_le_mul_right _ h.top) (Nat.le_of_eq ?_)
      ac_rfl
    have a2 : (n k * m k * q2).natAbs ≤ BB * L.natAbs := by
      rw [Int.natAbs_mul]
      refine Nat.mul_le_mul (prod_lt f1.n f2.n) ?_
      rw [← e2]
      exact Nat.le_mul_of_pos_right _ (by omega)
    have : (k + 1) * BB * L.natAbs = k * BB * L.natAbs + BB * L.natAbs := by
      rw [Nat.add_mul, Nat.add_mul, Nat.one_mul]
    rw [this]
    exact Nat.add_le_add a1 a2
  · have z1 : n k ≠ 0 := fun z' => z (by rw [z', Int.zero_mul])
    have z2 : m k ≠ 0 := fun z' => z (by rw [z', Int.mul_zero])
    rw [due_yes z1 z2]
    have hbn : d k * e k ≠ 0 := by omega
    have x1 := cross (t := n k * m k) hbn
    have y0 := bot_pos (t := n k * m k) hbn
    have he := h.eq
    have p0 := dk.pos
    generalize due n d m e k = p at *
    generalize RT.top (n k * m k) (d k * e k) = x at *
    generalize RT.bot (n k * m k) (d k * e k) = y at *
    have hD : p.2 * y ≠ 0 := Int.mul_ne_zero (by omega) (by omega)
    have c := cross (t := p.1 * y + x * p.2) hD
    have key : (t * q1 + n k * m k * q2) * (p.2 * y) = (p.1 * y + x * p.2) * L := by
      calc (t * q1 + n k * m k * q2) * (p.2 * y) = t * p.2 * (q1 * y) + n k * m k * y * (q2 * p.2) := by
            rw [Int.add_mul]; congr 1 <;> ac_rfl
        _ = p.1 * b * (q1 * y) + x * (d k * e k) * (q2 * p.2) := by rw [he, x1]
        _ = p.1 * y * (q1 * b) + x * p.2 * (q2 * (d k * e k)) := by congr 1 <;> ac_rfl
        _ = p.1 * y * L + x * p.2 * L := by rw [c1, c2]
        _ = _ := by rw [Int.add_mul]
    show (t * q1 + n k * m k * q2) * RT.bot (p.1 * y + x * p.2) (p.2 * y) = RT.top (p.1 * y + x * p.2) (p.2 * y) * L
    refine Int.eq_of_mul_eq_mul_right hD ?_
    calc (t * q1 + n k * m k * q2) * RT.bot (p.1 * y + x * p.2) (p.2 * y) * (p.2 * y) = ((t * q1 + n k * m k * q2) * (p.2 * y)) * RT.bot (p.1 * y + x * p.2) (p.2 * y) := by ac_rfl
      _ = ((p.1 * y + x * p.2) * RT.bot (p.1 * y + x * p.2) (p.2 * y)) * L := by rw [key]; ac_rfl
      _ = (RT.top (p.1 * y + x * p.2) (p.2 * y) * (p.2 * y)) * L := by rw [c]
      _ = RT.top (p.1 * y + x * p.2) (p.2 * y) * L * (p.2 * y) := by ac_rfl
theorem sum_end {n d m e : Nat → Int} {k : Nat} {t b : Int} (h : SumAt n d m e k t b) (f : ∀ j, j < k → Fr (n j) (d j) ∧ Fr (m j) (e j)) : RT.top t b = (due n d m e k).1 ∧ RT.bot t b = (due n d m e k).2 := by
  have dk := due_ok f
  have p0 := dk.pos
  have k1 := keeps dk.pos dk.co
  have s := same (t := t) (b := b) (t' := (due n d m e k).1) (b' := (due n d m e k).2) (by have := h.pos; omega) (by omega) h.eq
  exact ⟨s.1.trans k1.1, s.2.trans k1.2⟩
theorem BB_pow {k : Nat} (h : k ≤ 60) : BB ^ k ≤ 2 ^ 8040 := by
  have : BB ^ k ≤ BB ^ 60 := Nat.pow_le_pow_right (by decide) h
  exact Nat.le_trans this (by rw [← Nat.pow_mul]; exact Nat.le_refl _)
theorem BB_top {k x : Nat} (h : k ≤ 60) (hx : x ≤ 2 ^ 8040) : k * BB * x < 2 ^ 8200 := by
  have h1 : k * BB ≤ 2 ^ 6 * 2 ^ 134 := Nat.mul_le_mul_right _ (by omega)
  have h2 : k * BB * x ≤ 2 ^ 6 * 2 ^ 134 * 2 ^ 8040 := Nat.mul_le_mul h1 hx
  rw [← Nat.pow_add, ← Nat.pow_add] at h2
  exact Nat.lt_of_le_of_lt h2 (Nat.pow_lt_pow_right (by decide) (by decide))
end RT

set_option Elab.async false
set_option maxRecDepth 100000
set_option exponentiation.threshold 100000
namespace RX
open PySem L2
def rLcm : List V → Hp → VK → Prop := fun vs H Q => ∃ a b : Int, vs = [.int a, .int b] ∧ a.natAbs < 2 ^ 13000 ∧ b.natAbs < 2 ^ 13000 ∧ Q (.int (RT.lcmI a b)) H
theorem lcm_log {x : Nat} (h : x < 2 ^ 13000) : ¬ (max 1 x).log2 / 30 + 1 > 450 := by
  have : (max 1 x).log2 < 13000 := by
    refine (Nat.log2_lt (by omega)).mpr ?_
    have : 1 < 2 ^ 13000 := Nat.one_lt_two_pow (by decide)
    omega
  omega
theorem cr_lcm {X : Cx} : CallR X (.builtin "math.lcm") rLcm := by
  intro pins s σ H vs us Q I r h
  obtain ⟨a, b, rfl, ha, hb, q⟩ := h
  obtain ⟨t, u, rfl⟩ := Vals.int2 r
  have e1 : ((Nat.lcm 1 a.natAbs).lcm b.natAbs : Nat) = Nat.lcm a.natAbs b.natAbs := by rw [Nat.lcm_one_left]
  have hm : max a.natAbs b.natAbs < 2 ^ 13000 := by omega
  have g := PySem.W.mg_run_lcm a t b u (lcm_log ha) (by
      have := lcm_log hm
      have h2 : (max a.natAbs b.natAbs).log2 ≤ (max 1 (max a.natAbs b.natAbs)).log2 := by
        by_cases z : max a.natAbs b.natAbs = 0
        · rw [z]; exact Nat.zero_le _
        · rw [show max 1 (max a.natAbs b.natAbs) = max a.natAbs b.natAbs by omega]; exact Nat.le_refl _
      omega) (by
      rw [e1, Int.natAbs_natCast]
      have h3 : Nat.lcm a.natAbs b.natAbs < 2 ^ 26000 := by
        by_cases z : a.natAbs = 0
        · rw [z, Nat.lcm_zero_left]; exact Nat.two_pow_pos _
        by_cases z2 : b.natAbs = 0
        · rw [z2, Nat.lcm_zero_right]; exact Nat.two_pow_pos _
        refine Nat.lt_of_le_of_lt (Nat.le_of_dvd (Nat.mul_pos (by omega) (by omega)) (Nat.lcm_dvd_mul _ _)) ?_
        have := Nat.mul_lt_mul'' ha hb
        rw [← Nat.pow_add] at this
        exact this
      by_cases z : Nat.lcm a.natAbs b.natAbs = 0
      · rw [z]; decide
      · exact Nat.lt_of_lt_of_le ((Nat.log2_lt z).mpr h3) (by decide))
  rw [e1] at g
  exact PySem.call_function_meets PySem.W.MGF.kind_lcm PySem.W.MGF.plain_lcm PySem.W.MGF.entry_lcm (PySem.W.MGF.args_lcm _ _) g.meets ⟨.int _, H, I.tok _, ⟨_, rfl⟩, q⟩
end RX

set_option Elab.async false
set_option maxRecDepth 100000
namespace RX
open PySem L2
open RQ (Hg Bt)
/-! ### Ratios and pairs of any size -/
abbrev sShared : Stmt := topS 39
theorem scShr : FnScope ["one", "other", "rest"] ["one", "other"] (defScope sShared) := ⟨rfl, rfl, rfl, by decide +kernel, rfl, by decide +kernel, by decide +kernel⟩
abbrev sLowest : Stmt := topS 40
theorem scLow : FnScope ["top", "bottom", "shared"] ["top", "bottom"] (defScope sLowest) := ⟨rfl, rfl, rfl, by decide +kernel, rfl, by decide +kernel, by decide +kernel⟩
def spInitB (C : Addr) : Sp := fun vs H Q _ => ∃ (p dx : Addr) (t b : Int), vs = [.ref p, .int t, .int b] ∧ H p = some (.ins C dx []) ∧ b ≠ 0 ∧
  ∀ H' : Hp, RatAt C H' p (RT.top t b) (RT.bot t b) → (∀ c o, H c = some o → c ≠ p → H' c = some o) → Q .non H'
def spPairB : Sp := fun vs H Q _ => ∃ (t b : Int), vs = [.int t, .int b] ∧ b ≠ 0 ∧ ∀ (r : Addr) (H' : Hp), Same H H' → H r = none → PairAt H' r (RT.top t b) (RT.bot t b) → Q (.ref r) H'
def spShr : Sp := fun vs H Q _ => ∃ (t b : Int), vs = [.int t, .int b] ∧ Q (.int (RT.gg t b)) H
section
variable {P : Program} {w : World} {K : PySem.W.Frag} {mg : Str → Option Value} {base : Heap}
theorem scIB : FnScope ["self", "top", "bottom", "shared", "by"] ["self", "top", "bottom"] (defScope sInit) := ⟨rfl, rfl, rfl, by decide +kernel, rfl, by decide +kernel, by decide +kernel⟩
theorem ok_initB (B : PL.Big P base) {f C : Addr} {fd : FuncData} (F : FunD K "__init__" "Ratio.__init__" (defArgs sInit) (defBody sInit) (defScope sInit) [.int 1] [] f fd) (T : TxtR K mg C) : FnOk P w K mg base CX0 33 f fd ["self", "top", "bottom"] (spInitB C) := by
  refine F.ok scIB (fun vs H Q E h => ?_) (fun cdv A outer s H vs Q E hr h => ?_)
  · obtain ⟨p, dx, t, b, rfl, _⟩ := h
    rfl
  · obtain ⟨p, dx, t, b, rfl, hp, hb, k⟩ := h
    refine ⟨_, pss_cons (ps_if (pt_cmpR op_eq (pv 2) pe_int (nomark _)) (pss_one ps_never) pss_nil)
      (pss_cons (ps_set (i := 3) scIB.nd rfl (Or.inl rfl) (pe_callBfun cr_gcd (by rfl) T.gcd (pa_cons (pv 1) (pa_cons (pv 2) pa_nil))))
      (pss_cons (ps_set (i := 4) scIB.nd rfl (Or.inl rfl) (pe_ifExp (pt_cmpR op_gt (pv 2) pe_int (nomark _)) (pv 3) (pe_un un_neg (pv 3))))
      (pss_cons (ps_fld (pv 0) (pe_op (PL.op_fdivP B hr ⟨_, _, rfl, rfl, rfl, rfl, rfl⟩) (pv 1) (pv 4)) rfl)
      (pss_one (ps_fld (pv 0) (pe_op (PL.op_fdivP B hr ⟨_, _, rfl, rfl, rfl, rfl, rfl⟩) (pv 2) (pv 4)) rfl))))), ?_⟩
    refine ⟨_, rfl, rfl, _, rfl, ?_⟩
    refine ite2 (fun z => ?_) (fun _ => ?_)
    · have z' := of_decide_eq_true z
      injection z' with z'
      exact absurd z' hb
    refine ⟨_, rfl, _, rfl, t, b, rfl, ?_⟩
    refine ⟨_, rfl, _, _, rfl, rfl, _, rfl, ?_⟩
    have by_ne := RT.byv_ne (t := t) hb
    have hdiv : ∀ y : Int, y = RT.byv t b → y ≠ 0 := fun y e => by rw [e]; exact by_ne
    have key : (if decide (b > 0) = true then RT.gg t b else -RT.gg t b) = RT.byv t b := by
      unfold RT.byv
      by_cases h0 : b > 0
      · rw [if_pos h0, if_pos (decide_eq_true h0)]
      · rw [if_neg h0, if_neg (by rw [decide_eq_false h0]; exact Bool.false_ne_true)]
    have fin : ∀ x : Int, x = RT.byv t b → Q .non (upd (upd H p (.ins C dx (putF "top" (.int (t.fdiv x)) []))) p (.ins C dx (putF "bottom" (.int (b.fdiv x)) (putF "top" (.int (t.fdiv x)) [])))) := fun x e => by
      subst e
      refine k _ ⟨dx, upd_same⟩ fun c o hc ne => ?_
      rw [upd_ne ne, upd_ne ne]
      exact hc
    refine ite2 (fun z => ?_) (fun z => ?_)
    · rw [if_pos z] at key
      refine ⟨_, rfl, _, rfl, _, rfl, _, _, rfl, rfl, (hdiv _ key), _, rfl, p, C, dx, [], rfl, hp, T.cl, T.nT, (by show 0 < 1000; decide), ?_⟩
      exact ⟨_, rfl, _, rfl, _, _, rfl, rfl, (hdiv _ key), _, rfl, p, C, dx, _, rfl, upd_same, T.cl, T.nB, (by show 1 < 1000; decide), fin _ key⟩
    · rw [if_neg z] at key
      refine ⟨_, rfl, _, rfl, _, rfl, _, rfl, _, _, rfl, rfl, (hdiv _ key), _, rfl, p, C, dx, [], rfl, hp, T.cl, T.nT, (by show 0 < 1000; decide), ?_⟩
      exact ⟨_, rfl, _, rfl, _, _, rfl, rfl, (hdiv _ key), _, rfl, p, C, dx, _, rfl, upd_same, T.cl, T.nB, (by show 1 < 1000; decide), fin _ key⟩
theorem ok_shr {f : Addr} {fd : FuncData} (F : Fun K "_law_shared" "_law_shared" sShared f fd) (T : TxtL mg) : FnOk P w K mg base CX0 1 f fd ["one", "other"] spShr := by
  refine F.ok scShr (fun vs H Q E h => ?_) (fun cdv A outer s H vs Q E hr h => ?_)
  · obtain ⟨t, b, rfl, _⟩ := h
    rfl
  · obtain ⟨t, b, rfl, k⟩ := h
    refine ⟨_, pss_cons (ps_set (i := 0) scShr.nd rfl (.inl rfl) (pe_callB call_abs (by rfl) T.abs (by decide +kernel) (pa_cons (pv 0) pa_nil)))
      (pss_cons (ps_set (i := 1) scShr.nd rfl (.inl rfl) (pe_callB call_abs (by rfl) T.abs (by decide +kernel) (pa_cons (pv 1) pa_nil)))
      (pss_cons (ps_while PassesOwn.never (pt_cmpR op_gt (pv 1) pe_int (nomark _))
        (pss_cons (ps_set (i := 2) scShr.nd rfl (.inl rfl) (pe_op op_mod (pe_callTy call_int1 (by rfl) T.int (by decide +kernel) (pa_cons (pv 0) pa_nil)) (pv 1)))
        (pss_cons (ps_set (i := 0) scShr.nd rfl (.inl rfl) (pv 1))
        (pss_one (ps_set (i := 1) scShr.nd rfl (.inl rfl) (pv 2))))))
      (pss_one (ps_ret (pv 0))))), ?_⟩
    refine ⟨_, rfl, t, rfl, _, rfl, b, rfl, ?_⟩
    have ab : ∀ x : Int, 0 ≤ (if x < 0 then -x else x) ∧ (if x < 0 then -x else x).natAbs = x.natAbs := fun x => by split <;> omega
    refine while_by (fun σ H' => ∃ (x y : Int) (o : Option V), σ = [some (.int x), some (.int y), o] ∧ H' = H ∧ 0 ≤ x ∧ 0 ≤ y ∧ Nat.gcd x.natAbs y.natAbs = Nat.gcd t.natAbs b.natAbs)
      (fun σ _ => match σ with | [_, some (.int y), _] => y.toNat | _ => 0)
      ⟨_, _, none, rfl, rfl, (ab t).1, (ab b).1, by rw [(ab t).2, (ab b).2]⟩ ?_ (fun σ H' R R' h q => by
        obtain ⟨v, hv, i, j, e1, e2, kk, e3, q⟩ := q
        exact ⟨v, hv, i, j, e1, e2, kk, e3, h _ _ q⟩)
    rintro σ H' ⟨x, y, o, rfl, rfl, x0, y0, g⟩
    refine ⟨_, rfl, _, _, rfl, rfl, _, rfl, ?_⟩
    refine ite2 (fun z => ?_) (fun z => ?_)
    · have z := of_decide_eq_true z
      refine ⟨_, rfl, .inl ⟨_, rfl, _, rfl, _, _, rfl, rfl, z, ?_⟩⟩
      have m0 := Int.emod_nonneg x (show y ≠ 0 by omega)
      have m1 := Int.emod_lt_of_pos x z
      refine ⟨_, rfl, _, rfl, ⟨_, _, _, rfl, rfl, y0, m0, ?_⟩, ?_⟩
      · rw [Nat.gcd_comm, ← g]
        have : (x % y).natAbs = x.natAbs % y.natAbs := by
          rw [Int.natAbs_emod_of_nonneg x0]
        rw [this, Nat.gcd_comm x.natAbs, Nat.gcd_rec y.natAbs x.natAbs]
      · show (x % y).toNat < y.toNat
        omega
    · have z : ¬ y > 0 := fun h => z (decide_eq_true h)
      have y00 : y = 0 := by omega
      subst y00
      have hg : x = RT.gg t b := by
        unfold RT.gg
        rw [← g]
        show x = ((Nat.gcd x.natAbs 0 : Nat) : Int)
        rw [Nat.gcd_zero_right]
        omega
      rw [hg]
      exact ⟨_, rfl, k⟩
theorem ok_low (B : PL.Big P base) {f fS : Addr} {fd dS : FuncData} (F : Fun K "_law_lowest" "_law_lowest" sLowest f fd) (cSh : CalN P w K mg base "_law_shared" 1 ["one", "other"] spShr fS dS) : FnOk P w K mg base CX0 33 f fd ["top", "bottom"] spPairB := by
  refine F.ok scLow (fun vs H Q E h => ?_) (fun cdv A outer s H vs Q E hr h => ?_)
  · obtain ⟨t, b, rfl, _⟩ := h
    rfl
  · obtain ⟨t, b, rfl, hb, k⟩ := h
    have hr32 : Room 32 _ := hr
    have hr1 : Room 1 _ := hr.mono (by decide)
    refine ⟨_, pss_cons (ps_set (i := 2) scLow.nd rfl (.inl rfl) (pe_call cSh.G hr1 rfl cSh.m cSh.kp cSh.b .nil pass0 (pa_cons (pv 0) (pa_cons (pv 1) pa_nil))))
      (C8.pss_cut (ps_if (pt_cmpR op_lt (pv 1) pe_int (nomark _))
        (pss_one (ps_set (i := 2) scLow.nd rfl (.inl rfl) (pe_op op_sub pe_int (pv 2))))
        pss_nil)
      (pss_one (ps_ret (pe_tup (pa_cons (pe_op (PL.op_fdivP B hr32 ⟨_, _, rfl, rfl, rfl, rfl, rfl⟩) (pv 0) (pv 2)) (pa_cons (pe_op (PL.op_fdivP B hr32 ⟨_, _, rfl, rfl, rfl, rfl, rfl⟩) (pv 1) (pv 2)) pa_nil)))))), ?_⟩
    refine ⟨_, rfl, _, rfl, t, b, rfl, ?_⟩
    refine ⟨fun σ' H2 => σ' = [some (.int t), some (.int b), some (.int (RT.byv t b))] ∧ H2 = H, ?_, ?_⟩
    · refine ⟨_, rfl, _, _, rfl, rfl, _, rfl, ?_⟩
      refine ite2 (fun z => ?_) (fun z => ?_)
      · have z := of_decide_eq_true z
        refine ⟨_, rfl, _, _, rfl, rfl, ?_, rfl⟩
        have e : (0 : Int) - RT.gg t b = RT.byv t b := by
          unfold RT.byv
          rw [if_neg (by omega)]
          omega
        show [some (V.int t), some (V.int b), some (V.int (0 - RT.gg t b))] = _
        rw [e]
      · have z : ¬ b < 0 := fun h => z (decide_eq_true h)
        refine ⟨?_, rfl⟩
        have e : RT.gg t b = RT.byv t b := by
          unfold RT.byv
          rw [if_pos (by omega)]
        show [some (V.int t), some (V.int b), some (V.int (RT.gg t b))] = _
        rw [e]
    · rintro σ' H' ⟨rfl, rfl⟩
      refine ⟨_, rfl, _, rfl, _, _, rfl, rfl, RT.byv_ne hb, _, rfl, _, rfl, _, _, rfl, rfl, RT.byv_ne hb, (by show 2 ≤ sizeLine; decide), fun r nr => ?_⟩
      exact k r _ (Same.upd nr) nr upd_same
end
end RX

set_option Elab.async false
set_option maxRecDepth 100000
/-! rows of numbers: products, what a row taken from another leaves, tables in reduced form -/
namespace VM
open RQ
/-- the sum of the products of the first w -/
def dot (u y : Nat → Rat) : Nat → Rat
  | 0 => 0
  | w + 1 => dot u y w + u w * y w
theorem dot_congr {u u' y y' : Nat → Rat} : ∀ {w : Nat}, (∀ j, j < w → u j = u' j) → (∀ j, j < w → y j = y' j) → dot u y w = dot u' y' w
  | 0, _, _ => rfl
  | w + 1, h, k => by
    unfold dot
    rw [dot_congr (fun j hj => h j (by omega)) (fun j hj => k j (by omega)), h w (by omega), k w (by omega)]
theorem dot_lin {u v y : Nat → Rat} (s c : Rat) : ∀ {w : Nat}, dot (fun j => s * (u j - c * v j)) y w = s * (dot u y w - c * dot v y w)
  | 0 => by unfold dot; grind
  | w + 1 => by
    unfold dot
    rw [dot_lin s c]
    grind
theorem dot_zero {u y : Nat → Rat} : ∀ {w : Nat}, (∀ j, j < w → u j * y j = 0) → dot u y w = 0
  | 0, _ => rfl
  | w + 1, h => by
    unfold dot
    rw [dot_zero fun j hj => h j (by omega), h w (by omega)]
    grind
/-- all but one of the products are 0 -/
theorem dot_one {u y : Nat → Rat} {k : Nat} : ∀ {w : Nat}, k < w → (∀ j, j < w → j ≠ k → u j * y j = 0) → dot u y w = u k * y k
  | 0, h, _ => absurd h (by omega)
  | w + 1, h, z => by
    unfold dot
    by_cases e : k = w
    · subst e
      rw [dot_zero fun j hj => z j (by omega) (by omega)]
      grind
    · rw [dot_one (w := w) (by omega) fun j hj ne => z j (by omega) ne, z w (by omega) (by omega)]
      grind
/-- y is 0 on all rows -/
def Ann (h w : Nat) (A : Nat → Nat → Rat) (y : Nat → Rat) : Prop := ∀ i, i < h → dot (A i) y w = 0
/-- u less so much of v that it is 0 at l, times some number -/
def Less (w l : Nat) (u v u' : Nat → Rat) : Prop := ∃ s : Rat, s ≠ 0 ∧ ∀ j, j < w → u' j = s * (u j - u l / v l * v j)
theorem Less.dot {w l : Nat} {u v u' y : Nat → Rat} (h : Less w l u v u') (hv : dot v y w = 0) : dot u' y w = 0 ↔ dot u y w = 0 := by
  obtain ⟨s, hs, e⟩ := h
  rw [dot_congr e (fun _ _ => rfl), dot_lin, hv]
  constructor
  · intro z; grind
  · intro z; rw [z]; grind
theorem Less.at {w l : Nat} {u v u' : Nat → Rat} (h : Less w l u v u') (hl : l < w) (hv : v l ≠ 0) : u' l = 0 := by
  obtain ⟨s, hs, e⟩ := h
  rw [e l hl]
  grind
theorem Less.zero {w l j : Nat} {u v u' : Nat → Rat} (h : Less w l u v u') (hj : j < w) (h1 : u j = 0) (h2 : v j = 0) : u' j = 0 := by
  obtain ⟨s, hs, e⟩ := h
  rw [e j hj, h1, h2]
  grind
theorem Less.keep {w l j : Nat} {u v u' : Nat → Rat} (h : Less w l u v u') (hj : j < w) (h1 : u j ≠ 0) (h2 : v j = 0) : u' j ≠ 0 := by
  obtain ⟨s, hs, e⟩ := h
  rw [e j hj, h2]
  intro z
  grind
theorem Less.refl {w l : Nat} {u v : Nat → Rat} (h : u l = 0) : Less w l u v u := ⟨1, by decide, fun j _ => by rw [h]; grind⟩
/-- found rows: each with its own lead, 0 ahead of it and at the leads of the earlier ones -/
structure Ech (n w : Nat) (l : Nat → Nat) (v : Nat → Nat → Rat) : Prop where
  lt : ∀ k, k < n → l k < w
  nz : ∀ k, k < n → v k (l k) ≠ 0
  zb : ∀ k, k < n → ∀ j, j < l k → v k j = 0
  zz : ∀ k, k < n → ∀ i, i < k → v k (l i) = 0
theorem Ech.inj {n w : Nat} {l : Nat → Nat} {v : Nat → Nat → Rat} (E : Ech n w l v) {i k : Nat} (hi : i < n) (hk : k < n) (e : l i = l k) : i = k := by
  rcases Nat.lt_trichotomy i k with h | h | h
  · have := E.zz k hk i h
    rw [e] at this
    exact absurd this (E.nz k hk)
  · exact h
  · have := E.zz i hi k h
    rw [← e] at this
    exact absurd this (E.nz i hi)
/-- a table in reduced form -/
structure Rref (r w : Nat) (F : Nat → Nat → Rat) (L : Nat → Nat) : Prop where
  lt : ∀ t, t < r → L t < w
  up : ∀ s t, s < t → t < r → L s < L t
  one : ∀ t, t < r → F t (L t) = 1
  off : ∀ s t, s < r → t < r → s ≠ t → F s (L t) = 0
  zb : ∀ t, t < r → ∀ j, j < L t → F t j = 0
/-! ### sizes -/
/-- bottoms that divide the column's, tops of at most b bits -/
structure VB (M : Nat → Int) (b w : Nat) (u : Nat → Rat) : Prop where
  d : ∀ j, j < w → ((u j).den : Int) ∣ M j
  n : ∀ j, j < w → Bt b (u j).num
structure MB (M : Nat → Int) (m w : Nat) : Prop where
  p : ∀ j, j < w → 0 < M j
  b : ∀ j, j < w → Bt m (M j)
theorem VB.up {M : Nat → Int} {a b w : Nat} {u : Nat → Rat} (h : VB M a w u) (l : a ≤ b) : VB M b w u := ⟨h.d, fun j hj => (h.n j hj).up l⟩
theorem VB.den {M : Nat → Int} {m b w : Nat} {u : Nat → Rat} (h : VB M b w u) (k : MB M m w) {j : Nat} (hj : j < w) : Bt m ((u j).den : Int) := by
  refine (k.b j hj).le ?_
  have := k.p j hj
  exact Nat.le_of_dvd (by omega) (Int.natAbs_dvd_natAbs.mpr (h.d j hj))
theorem dvd_bt {b : Nat} {x y : Int} (h : x ∣ y) (z : y ≠ 0) (k : Bt b y) : Bt b x := k.le (Nat.le_of_dvd (by omega) (Int.natAbs_dvd_natAbs.mpr h))
/-- the factor: its sizes -/
theorem part_bt {M : Nat → Int} {m b1 b2 w l : Nat} {u v : Nat → Rat} (hu : VB M b1 w u) (hv : VB M b2 w v) (k : MB M m w) (hl : l < w) (u0 : u l ≠ 0) (v0 : v l ≠ 0) :
    Bt (b1 + m) (u l / v l).num ∧ Bt (m + b2) ((u l / v l).den : Int) := by
  have e1 := nd (u l)
  have e2 := nd (v l)
  have d1 := den0 (u l)
  have d2 := den0 (v l)
  have n1 : (u l).num ≠ 0 := fun z => u0 (num0.mp z)
  have n2 : (v l).num ≠ 0 := fun z => v0 (num0.mp z)
  have p1 : ((u l).den : Int) ≠ 0 := by have := (u l).den_pos; omega
  have p2 : ((v l).den : Int) ≠ 0 := by have := (v l).den_pos; omega
  have e : (((u l).num * ((v l).den : Int) : Int) : Rat) = u l / v l * (((((u l).den : Int) * (v l).num) : Int) : Rat) := by
    rw [Rat.intCast_mul, Rat.intCast_mul, e1, e2]
    grind
  obtain ⟨q1, q2⟩ := den_dvd (Int.mul_ne_zero p1 n2) e
  refine ⟨dvd_bt q2 (Int.mul_ne_zero n1 p2) ((hu.n l hl).mul (hv.den k hl)), dvd_bt q1 (Int.mul_ne_zero p1 n2) ((hu.den k hl).mul (hv.n l hl))⟩
/-- the tops and bottoms that freeing makes -/
def bt (u v : Nat → Rat) (j : Nat) : Int := ((Nat.lcm (u j).den (v j).den : Nat) : Int)
def tp (u v : Nat → Rat) (l j : Nat) : Int := (u j).num * (bt u v j).fdiv ((u j).den : Int) * ((u l / v l).den : Int) - (v j).num * (bt u v j).fdiv ((v j).den : Int) * (u l / v l).num
theorem bt_pos (u v : Nat → Rat) (j : Nat) : 0 < bt u v j := by
  unfold bt
  have : 0 < Nat.lcm (u j).den (v j).den := Nat.lcm_pos (u j).den_pos (v j).den_pos
  omega
theorem bt_l (u v : Nat → Rat) (j : Nat) : ((u j).den : Int) ∣ bt u v j := by
  unfold bt
  exact Int.natCast_dvd_natCast.mpr (Nat.dvd_lcm_left _ _)
theorem bt_r (u v : Nat → Rat) (j : Nat) : ((v j).den : Int) ∣ bt u v j := by
  unfold bt
  exact Int.natCast_dvd_natCast.mpr (Nat.dvd_lcm_right _ _)
theorem bt_dvd {M : Nat → Int} {m b1 b2 w j : Nat} {u v : Nat → Rat} (hu : VB M b1 w u) (hv : VB M b2 w v) (k : MB M m w) (hj : j < w) : bt u v j ∣ M j := by
  unfold bt
  have h1 := Int.natAbs_dvd_natAbs.mpr (hu.d j hj)
  have h2 := Int.natAbs_dvd_natAbs.mpr (hv.d j hj)
  refine Int.natAbs_dvd_natAbs.mp ?_
  rw [Int.natAbs_natCast] at *
  exact Nat.lcm_dvd h1 h2
theorem tp_eq (u v : Nat → Rat) (l j : Nat) : ((tp u v l j : Int) : Rat) = ((u l / v l).den : Int) * (u j - u l / v l * v j) * ((bt u v j : Int) : Rat) := by
  have c1 := RT.fdiv_of_dvd (by have := (u j).den_pos; omega) (bt_l u v j)
  have c2 := RT.fdiv_of_dvd (by have := (v j).den_pos; omega) (bt_r u v j)
  have e1 := nd (u j)
  have e2 := nd (v j)
  have e3 := nd (u l / v l)
  have r1 : (((bt u v j).fdiv ((u j).den : Int) : Int) : Rat) * (((u j).den : Int) : Rat) = ((bt u v j : Int) : Rat) := by rw [← Rat.intCast_mul, c1]
  have r2 : (((bt u v j).fdiv ((v j).den : Int) : Int) : Rat) * (((v j).den : Int) : Rat) = ((bt u v j : Int) : Rat) := by rw [← Rat.intCast_mul, c2]
  unfold tp
  rw [Rat.intCast_sub, Rat.intCast_mul, Rat.intCast_mul, Rat.intCast_mul, Rat.intCast_mul]
  generalize (((bt u v j).fdiv ((u j).den : Int) : Int) : Rat) = q1 at *
  generalize (((bt u v j).fdiv ((v j).den : Int) : Int) : Rat) = q2 at *
  generalize ((bt u v j : Int) : Rat) = B at *
  generalize u l / v l = c at *
  generalize ((c.den : Int) : Rat) = cd at *
  generalize (((u j).den : Int) : Rat) = ud at *
  generalize (((v j).den : Int) : Rat) = vd at *
  generalize ((u j).num : Rat) = un at *
  generalize ((v j).num : Rat) = vn at *
  generalize (c.num : Rat) = cn at *
  subst e1 e2 e3
  grind
theorem quot_bt {m : Nat} {x y : Int} (h : y ∣ x) (hy : y ≠ 0) (k : Bt m x) : Bt m (x.fdiv y) := by
  have e := RT.fdiv_of_dvd hy h
  refine k.le ?_
  rw [← congrArg Int.natAbs e, Int.natAbs_mul]
  exact Nat.le_mul_of_pos_right _ (by omega)
theorem tp_bt {M : Nat → Int} {m b1 b2 w l j : Nat} {u v : Nat → Rat} (hu : VB M b1 w u) (hv : VB M b2 w v) (k : MB M m w) (hl : l < w) (hj : j < w) (u0 : u l ≠ 0) (v0 : v l ≠ 0) :
    Bt m (bt u v j) ∧ Bt (b1 + m) ((u j).num * (bt u v j).fdiv ((u j).den : Int)) ∧ Bt (b2 + m) ((v j).num * (bt u v j).fdiv ((v j).den : Int)) ∧ Bt (b1 + b2 + 2 * m + 1) (tp u v l j) := by
  obtain ⟨c1, c2⟩ := part_bt hu hv k hl u0 v0
  have B : Bt m (bt u v j) := dvd_bt (bt_dvd hu hv k hj) (by have := k.p j hj; omega) (k.b j hj)
  have q1 := quot_bt (bt_l u v j) (by have := (u j).den_pos; omega) B
  have q2 := quot_bt (bt_r u v j) (by have := (v j).den_pos; omega) B
  have t1 := (hu.n j hj).mul q1
  have t2 := (hv.n j hj).mul q2
  refine ⟨B, t1, t2, ?_⟩
  exact ((t1.mul c2).up (by omega)).sub ((t2.mul c1).up (by omega))
end VM

set_option Elab.async false
set_option maxRecDepth 100000
namespace VM
open RQ
/-- the greatest factor of the first k -/
def gf (z : Nat → Int) : Nat → Nat
  | 0 => 0
  | k + 1 => Nat.gcd (gf z k) (z k).natAbs
theorem gf_dvd {z : Nat → Int} : ∀ {k j : Nat}, j < k → ((gf z k : Nat) : Int) ∣ z j
  | 0, _, h => absurd h (by omega)
  | k + 1, j, h => by
    unfold gf
    by_cases e : j = k
    · subst e
      exact Int.natAbs_dvd_natAbs.mp (by rw [Int.natAbs_natCast]; exact Nat.gcd_dvd_right _ _)
    · have := gf_dvd (z := z) (k := k) (j := j) (by omega)
      exact Int.dvd_trans (Int.natCast_dvd_natCast.mpr (Nat.gcd_dvd_left _ _)) this
theorem gf_pos {z : Nat → Int} : ∀ {k j : Nat}, j < k → z j ≠ 0 → 0 < gf z k
  | 0, _, h, _ => absurd h (by omega)
  | k + 1, j, h, n => by
    unfold gf
    by_cases e : j = k
    · subst e
      exact Nat.gcd_pos_of_pos_right _ (by omega)
    · exact Nat.gcd_pos_of_pos_left _ (gf_pos (z := z) (k := k) (j := j) (by omega) n)
def bz (u v : Nat → Rat) (l j : Nat) : Int := if tp u v l j = 0 then 0 else bt u v j
theorem sub_cast (a b : Int) : ((a - b : Int) : Rat) = (a : Rat) - (b : Rat) := Rat.intCast_sub a b
/-- what freeing makes of each place -/
theorem freed {M : Nat → Int} {m b1 b2 w l : Nat} {u v : Nat → Rat} (hu : VB M b1 w u) (hv : VB M b2 w v) (k : MB M m w) (hl : l < w) (u0 : u l ≠ 0) (v0 : v l ≠ 0) :
    ∃ u' : Nat → Rat, Less w l u v u' ∧ VB M (b1 + b2 + 2 * m + 1) w u' ∧ ∀ j, j < w →
      (tp u v l j = 0 → u' j = 0) ∧
      (tp u v l j ≠ 0 → ((gf (tp u v l) w : Nat) : Int) ≠ 0 ∧ ((gf (bz u v l) w : Nat) : Int) ≠ 0 ∧ (bt u v j).fdiv ((gf (bz u v l) w : Nat) : Int) ≠ 0 ∧
        RT.top ((tp u v l j).fdiv ((gf (tp u v l) w : Nat) : Int)) ((bt u v j).fdiv ((gf (bz u v l) w : Nat) : Int)) = (u' j).num ∧
        RT.bot ((tp u v l j).fdiv ((gf (tp u v l) w : Nat) : Int)) ((bt u v j).fdiv ((gf (bz u v l) w : Nat) : Int)) = ((u' j).den : Int)) := by
  have cd := den0 (u l / v l)
  by_cases all : ∀ j, j < w → tp u v l j = 0
  · refine ⟨fun _ => 0, ⟨1, by decide, fun j hj => ?_⟩, ⟨fun j hj => ⟨M j, by show M j = 1 * M j; rw [Int.one_mul]⟩, fun j hj => ?_⟩, fun j hj => ⟨fun _ => rfl, fun n => absurd (all j hj) n⟩⟩
    · have e := tp_eq u v l j
      rw [all j hj] at e
      have b0 := i0 (show bt u v j ≠ 0 by have := bt_pos u v j; omega)
      have e0 : ((0 : Int) : Rat) = 0 := rfl
      rw [e0] at e
      grind
    · show Bt _ (0 : Rat).num
      exact Nat.two_pow_pos _
  · obtain ⟨i, hi, hn⟩ : ∃ i, i < w ∧ tp u v l i ≠ 0 := by
      refine Classical.byContradiction fun no => all fun j hj => Classical.byContradiction fun n => no ⟨j, hj, n⟩
    have A0 := gf_pos (z := tp u v l) hi hn
    have bn : bz u v l i ≠ 0 := by unfold bz; rw [if_neg hn]; have := bt_pos u v i; omega
    have B0 := gf_pos (z := bz u v l) hi bn
    generalize hA : gf (tp u v l) w = A at *
    generalize hB : gf (bz u v l) w = B at *
    have A1 : ((A : Nat) : Int) ≠ 0 := by omega
    have B1 : ((B : Nat) : Int) ≠ 0 := by omega
    have A2 := i0 A1
    have B2 := i0 B1
    have s0 : ((B : Int) : Rat) / ((A : Int) : Rat) * (((u l / v l).den : Int) : Rat) ≠ 0 := by
      intro z; grind
    have val : ∀ j, j < w → tp u v l j ≠ 0 → ((B : Nat) : Int) ∣ bt u v j ∧ (bt u v j).fdiv ((B : Nat) : Int) ≠ 0 ∧
        (((tp u v l j).fdiv ((A : Nat) : Int) : Int) : Rat) = ((B : Int) : Rat) / ((A : Int) : Rat) * (((u l / v l).den : Int) : Rat) * (u j - u l / v l * v j) * (((bt u v j).fdiv ((B : Nat) : Int) : Int) : Rat) := fun j hj n => by
      have dA : ((A : Nat) : Int) ∣ tp u v l j := by rw [← hA]; exact gf_dvd hj
      have dB : ((B : Nat) : Int) ∣ bt u v j := by
        have := gf_dvd (z := bz u v l) hj
        rw [hB] at this
        unfold bz at this
        rw [if_neg n] at this
        exact this
      have f1 := RT.fdiv_of_dvd A1 dA
      have f2 := RT.fdiv_of_dvd B1 dB
      have bp := bt_pos u v j
      have ne : (bt u v j).fdiv ((B : Nat) : Int) ≠ 0 := fun z => by rw [z, Int.zero_mul] at f2; omega
      refine ⟨dB, ne, ?_⟩
      have e := tp_eq u v l j
      have g1 : (((tp u v l j).fdiv ((A : Nat) : Int) : Int) : Rat) * ((A : Int) : Rat) = ((tp u v l j : Int) : Rat) := by rw [← Rat.intCast_mul, f1]
      have g2 : (((bt u v j).fdiv ((B : Nat) : Int) : Int) : Rat) * ((B : Int) : Rat) = ((bt u v j : Int) : Rat) := by rw [← Rat.intCast_mul, f2]
      rw [e] at g1
      grind
    refine ⟨fun j => ((B : Int) : Rat) / ((A : Int) : Rat) * (((u l / v l).den : Int) : Rat) * (u j - u l / v l * v j), ⟨_, s0, fun _ _ => rfl⟩, ⟨fun j hj => ?_, fun j hj => ?_⟩, fun j hj => ⟨fun z => ?_, fun n => ?_⟩⟩
    · by_cases n : tp u v l j = 0
      · have e := tp_eq u v l j
        rw [n] at e
        have b0 := i0 (show bt u v j ≠ 0 by have := bt_pos u v j; omega)
        have e0 : ((0 : Int) : Rat) = 0 := rfl
        rw [e0] at e
        have x0 : u j - u l / v l * v j = 0 := by grind
        show ((((B : Int) : Rat) / ((A : Int) : Rat) * (((u l / v l).den : Int) : Rat) * (u j - u l / v l * v j)).den : Int) ∣ M j
        rw [x0, Rat.mul_zero]
        exact ⟨M j, by show M j = 1 * M j; rw [Int.one_mul]⟩
      · obtain ⟨dB, ne, e⟩ := val j hj n
        have d1 := (den_dvd ne e).1
        refine Int.dvd_trans d1 (Int.dvd_trans ?_ (bt_dvd hu hv k hj))
        exact ⟨((B : Nat) : Int), (RT.fdiv_of_dvd B1 dB).symm⟩
    · by_cases n : tp u v l j = 0
      · have e := tp_eq u v l j
        rw [n] at e
        have b0 := i0 (show bt u v j ≠ 0 by have := bt_pos u v j; omega)
        have e0 : ((0 : Int) : Rat) = 0 := rfl
        rw [e0] at e
        have x0 : u j - u l / v l * v j = 0 := by grind
        show Bt _ (((B : Int) : Rat) / ((A : Int) : Rat) * (((u l / v l).den : Int) : Rat) * (u j - u l / v l * v j)).num
        rw [x0, Rat.mul_zero]
        exact Nat.two_pow_pos _
      · obtain ⟨dB, ne, e⟩ := val j hj n
        have d1 := (den_dvd ne e).2
        have dA : ((A : Nat) : Int) ∣ tp u v l j := by rw [← hA]; exact gf_dvd hj
        have f1 := RT.fdiv_of_dvd A1 dA
        have z1 : (tp u v l j).fdiv ((A : Nat) : Int) ≠ 0 := fun z => by rw [z, Int.zero_mul] at f1; exact n f1.symm
        exact dvd_bt d1 z1 (quot_bt dA A1 (tp_bt hu hv k hl hj u0 v0).2.2.2)
    · have e := tp_eq u v l j
      rw [z] at e
      have b0 := i0 (show bt u v j ≠ 0 by have := bt_pos u v j; omega)
      have e0 : ((0 : Int) : Rat) = 0 := rfl
      rw [e0] at e
      have x0 : u j - u l / v l * v j = 0 := by grind
      show ((B : Int) : Rat) / ((A : Int) : Rat) * (((u l / v l).den : Int) : Rat) * (u j - u l / v l * v j) = 0
      rw [x0, Rat.mul_zero]
    · obtain ⟨dB, ne, e⟩ := val j hj n
      obtain ⟨q1, q2⟩ := low ne e
      exact ⟨A1, B1, ne, q1, q2⟩
end VM

set_option Elab.async false
set_option maxRecDepth 100000
namespace VM
open RQ
/-- bits behind k steps -/
def bK (m e : Nat) : Nat → Nat
  | 0 => e - (2 * m + 1)
  | k + 1 => bK m e k + bK m e k + 2 * m + 1
theorem bK_le {m e : Nat} (h : 2 * m + 1 ≤ e) : ∀ k : Nat, bK m e k + (2 * m + 1) = 2 ^ k * e
  | 0 => by unfold bK; omega
  | k + 1 => by
    have := bK_le h k
    unfold bK
    rw [Nat.pow_succ, Nat.mul_assoc, Nat.mul_comm 2 e, ← Nat.mul_assoc, ← this]
    omega
theorem bK_mono {m e : Nat} {i k : Nat} (h : i ≤ k) : bK m e i ≤ bK m e k := by
  induction h with
  | refl => exact Nat.le_refl _
  | @step k _ ih =>
    show bK m e i ≤ bK m e k + bK m e k + 2 * m + 1
    omega
theorem bK_max {m e k R N : Nat} (h : 2 * m + 1 ≤ e) (hk : k ≤ R) (hN : 2 ^ R * e ≤ N) : bK m e k ≤ N := by
  have h1 := bK_le h R
  have h2 := bK_mono (m := m) (e := e) hk
  omega
/-- unlike numbers below w are at most w -/
theorem pigeon : ∀ {w : Nat} {xs : List Nat}, xs.Nodup → (∀ x ∈ xs, x < w) → xs.length ≤ w
  | 0, xs, _, h => by
    cases xs with
    | nil => exact Nat.le_refl _
    | cons x xs => exact absurd (h x List.mem_cons_self) (by omega)
  | w + 1, xs, nd, h => by
    have nd' : (xs.erase w).Nodup := nd.erase w
    have h' : ∀ x ∈ xs.erase w, x < w := fun x hx => by
      have h1 := h x (List.mem_of_mem_erase hx)
      have h2 : x ≠ w := fun e => by
        rw [e] at hx
        exact (List.Nodup.not_mem_erase nd) hx
      omega
    have ih := pigeon nd' h'
    have := List.length_erase_of_mem (a := w) (l := xs)
    by_cases hm : w ∈ xs
    · have := List.length_erase_of_mem hm
      omega
    · rw [List.erase_of_not_mem hm] at ih
      omega
theorem Ech.le {n w : Nat} {l : Nat → Nat} {v : Nat → Nat → Rat} (E : Ech n w l v) : n ≤ w := by
  have nd : ((List.range n).map l).Nodup := by
    rw [List.nodup_iff_pairwise_ne, List.pairwise_map]
    refine List.Pairwise.imp_of_mem ?_ (List.nodup_iff_pairwise_ne.mp List.nodup_range)
    intro a b ha hb ne e
    exact ne (E.inj (List.mem_range.mp ha) (List.mem_range.mp hb) e)
  have := pigeon nd fun x hx => by
    obtain ⟨k, hk, rfl⟩ := List.mem_map.mp hx
    exact E.lt k (List.mem_range.mp hk)
  rw [List.length_map, List.length_range] at this
  exact this
/-- one more at the end -/
def ex {α : Type} (f : Nat → α) (i : Nat) (x : α) : Nat → α := fun j => if j = i then x else f j
theorem ex_same {α : Type} (f : Nat → α) (i : Nat) (x : α) : ex f i x i = x := if_pos rfl
theorem ex_lt {α : Type} (f : Nat → α) {i j : Nat} (x : α) (h : j < i) : ex f i x j = f j := if_neg (by omega)
theorem Ech.more {n w k : Nat} {l : Nat → Nat} {v : Nat → Nat → Rat} {u : Nat → Rat} (E : Ech n w l v) (hk : k < w) (nz : u k ≠ 0) (zb : ∀ j, j < k → u j = 0) (zz : ∀ i, i < n → u (l i) = 0) : Ech (n + 1) w (ex l n k) (ex v n u) where
  lt := fun j hj => by
    by_cases e : j = n
    · subst e; rw [ex_same]; exact hk
    · rw [ex_lt l k (by omega)]; exact E.lt j (by omega)
  nz := fun j hj => by
    by_cases e : j = n
    · subst e; rw [ex_same, ex_same]; exact nz
    · rw [ex_lt l k (by omega), ex_lt v u (by omega)]; exact E.nz j (by omega)
  zb := fun j hj i hi => by
    by_cases e : j = n
    · subst e; rw [ex_same] at hi ⊢; exact zb i hi
    · rw [ex_lt l k (by omega)] at hi; rw [ex_lt v u (by omega)]; exact E.zb j (by omega) i hi
  zz := fun j hj i hi => by
    by_cases e : j = n
    · subst e; rw [ex_same, ex_lt l k hi]; exact zz i hi
    · rw [ex_lt v u (by omega), ex_lt l k (by omega)]; exact E.zz j (by omega) i hi
theorem ann_succ {n w : Nat} {v : Nat → Nat → Rat} {u y : Nat → Rat} : Ann (n + 1) w (ex v n u) y ↔ Ann n w v y ∧ dot u y w = 0 := by
  constructor
  · intro h
    refine ⟨fun i hi => ?_, ?_⟩
    · have := h i (by omega)
      rw [ex_lt v u hi] at this
      exact this
    · have := h n (by omega)
      rw [ex_same] at this
      exact this
  · intro h i hi
    by_cases e : i = n
    · subst e; rw [ex_same]; exact h.2
    · rw [ex_lt v u (by omega)]; exact h.1 i (by omega)
theorem ann_more {h w : Nat} {U : Nat → Nat → Rat} {y : Nat → Rat} : Ann (h + 1) w U y ↔ Ann h w U y ∧ dot (U h) y w = 0 := by
  constructor
  · intro z
    exact ⟨fun i hi => z i (by omega), z h (by omega)⟩
  · intro z i hi
    by_cases e : i = h
    · subst e; exact z.2
    · exact z.1 i (by omega)
/-! ### from the last row up -/
/-- rows that are done from t on: each with its lead, 0 ahead of it and at the leads behind -/
structure Done (t n w : Nat) (L : Nat → Nat) (z : Nat → Nat → Rat) : Prop where
  nz : ∀ k, t ≤ k → k < n → z k (L k) ≠ 0
  zb : ∀ k, t ≤ k → k < n → ∀ j, j < L k → z k j = 0
  zz : ∀ k, t ≤ k → k < n → ∀ i, k < i → i < n → z k (L i) = 0
theorem Done.rref {n w : Nat} {L : Nat → Nat} {z : Nat → Nat → Rat} (D : Done 0 n w L z) (lt : ∀ k, k < n → L k < w) (up : ∀ s t, s < t → t < n → L s < L t) : Rref n w (fun t j => z t j / z t (L t)) L where
  lt := lt
  up := up
  one := fun t ht => by
    have := D.nz t (Nat.zero_le _) ht
    grind
  off := fun s t hs ht ne => by
    have h0 : z s (L t) = 0 := by
      rcases Nat.lt_or_ge s t with h | h
      · exact D.zz s (Nat.zero_le _) hs t h ht
      · exact D.zb s (Nat.zero_le _) hs _ (up t s (by omega) hs)
    show z s (L t) / z s (L s) = 0
    rw [h0]
    grind
  zb := fun t ht j hj => by
    show z t j / z t (L t) = 0
    rw [D.zb t (Nat.zero_le _) ht j hj]
    grind
theorem dot_div {u y : Nat → Rat} {c : Rat} (hc : c ≠ 0) {w : Nat} : dot (fun j => u j / c) y w = 0 ↔ dot u y w = 0 := by
  have e : dot (fun j => u j / c) y w = dot (fun j => (1 / c) * (u j - 0 * (fun _ => (0 : Rat)) j)) y w := dot_congr (fun j _ => by grind) fun _ _ => rfl
  rw [e, dot_lin]
  constructor
  · intro h; grind
  · intro h; rw [h]; grind
end VM

set_option Elab.async false
set_option maxRecDepth 100000
namespace VM
open RQ
/-- leads sorted -/
theorem sorted_of {n : Nat} {l : Nat → Nat} (inj : ∀ i k, i < n → k < n → l i = l k → i = k) {ys : List Int} (hp : ys.Perm ((List.range n).map fun k => ((l k : Nat) : Int))) (hs : ys.Pairwise (· ≤ ·)) :
    ∃ L κ : Nat → Nat, ys = (List.range n).map (fun t => ((L t : Nat) : Int)) ∧ (∀ t, t < n → κ t < n ∧ l (κ t) = L t) ∧ (∀ s t, s < t → t < n → L s < L t) ∧ ∀ k, k < n → ∃ t, t < n ∧ κ t = k := by
  have len : ys.length = n := by rw [hp.length_eq, List.length_map, List.length_range]
  have nd : ys.Nodup := by
    refine hp.nodup_iff.mpr ?_
    rw [List.nodup_iff_pairwise_ne, List.pairwise_map]
    refine List.Pairwise.imp_of_mem ?_ (List.nodup_iff_pairwise_ne.mp List.nodup_range)
    intro a b ha hb ne e
    exact ne (inj a b (List.mem_range.mp ha) (List.mem_range.mp hb) (by omega))
  have at_ : ∀ t, t < n → ∃ k, k < n ∧ ys.getD t 0 = ((l k : Nat) : Int) := fun t ht => by
    have hm : ys.getD t 0 ∈ ys := by
      rw [List.getD_eq_getElem?_getD, List.getElem?_eq_getElem (by omega)]
      exact List.getElem_mem _
    obtain ⟨k, hk, e⟩ := List.mem_map.mp (hp.mem_iff.mp hm)
    exact ⟨k, List.mem_range.mp hk, e.symm⟩
  have ch : ∀ t, ∃ k, t < n → k < n ∧ ys.getD t 0 = ((l k : Nat) : Int) := fun t => by
    by_cases ht : t < n
    · obtain ⟨k, hk⟩ := at_ t ht
      exact ⟨k, fun _ => hk⟩
    · exact ⟨0, fun h => absurd h ht⟩
  obtain ⟨κ, hκ⟩ := Classical.axiomOfChoice ch
  have gL : ∀ t, t < n → ys[t]? = some ((l (κ t) : Nat) : Int) := fun t ht => by
    have := (hκ t ht).2
    rw [List.getD_eq_getElem?_getD, List.getElem?_eq_getElem (by omega)] at this
    rw [List.getElem?_eq_getElem (by omega)]
    exact congrArg some this
  refine ⟨fun t => l (κ t), κ, ?_, fun t ht => ⟨(hκ t ht).1, rfl⟩, fun s t hst ht => ?_, fun k hk => ?_⟩
  · refine List.ext_getElem? fun t => ?_
    by_cases ht : t < n
    · rw [gL t ht, List.getElem?_map, List.getElem?_range ht]
      rfl
    · rw [List.getElem?_eq_none (by omega), List.getElem?_eq_none (by rw [List.length_map, List.length_range]; omega)]
  · have h1 := List.pairwise_iff_getElem.mp hs s t (by omega) (by omega) hst
    have h2 := List.pairwise_iff_getElem.mp (List.nodup_iff_pairwise_ne.mp nd) s t (by omega) (by omega) hst
    have e1 := (List.getElem?_eq_some_iff.mp (gL s (by omega))).2
    have e2 := (List.getElem?_eq_some_iff.mp (gL t ht)).2
    rw [e1, e2] at h1 h2
    show l (κ s) < l (κ t)
    omega
  · have hm : ((l k : Nat) : Int) ∈ ys := hp.mem_iff.mpr (List.mem_map.mpr ⟨k, List.mem_range.mpr hk, rfl⟩)
    obtain ⟨t, ht, e⟩ := List.mem_iff_getElem.mp hm
    have htn : t < n := by omega
    have e2 := (List.getElem?_eq_some_iff.mp (gL t htn)).2
    refine ⟨t, htn, inj _ _ (hκ t htn).1 hk ?_⟩
    rw [e] at e2
    omega
/-- done rows turned about are a table in reduced form -/
theorem Ech.rref {n w : Nat} {L : Nat → Nat} {z : Nat → Nat → Rat} (E : Ech n w (fun j => L (n - 1 - j)) z) (up : ∀ s t, s < t → t < n → L s < L t) :
    Rref n w (fun t j => z (n - 1 - t) j / z (n - 1 - t) (L t)) L := by
  have back : ∀ t, t < n → n - 1 - (n - 1 - t) = t := fun t h => by omega
  have nz : ∀ t, t < n → z (n - 1 - t) (L t) ≠ 0 := fun t ht => by
    have := E.nz (n - 1 - t) (by omega)
    simp only [back t ht] at this
    exact this
  have zb : ∀ t, t < n → ∀ j, j < L t → z (n - 1 - t) j = 0 := fun t ht j hj => by
    refine E.zb (n - 1 - t) (by omega) j ?_
    simp only [back t ht]
    exact hj
  refine ⟨fun t ht => ?_, up, fun t ht => ?_, fun s t hs ht ne => ?_, fun t ht j hj => ?_⟩
  · have := E.lt (n - 1 - t) (by omega)
    simp only [back t ht] at this
    exact this
  · have := nz t ht
    grind
  · have h0 : z (n - 1 - s) (L t) = 0 := by
      rcases Nat.lt_or_ge s t with h | h
      · have := E.zz (n - 1 - s) (by omega) (n - 1 - t) (by omega)
        simp only [back t ht] at this
        exact this
      · exact zb s hs _ (up t s (by omega) hs)
    show z (n - 1 - s) (L t) / z (n - 1 - s) (L s) = 0
    rw [h0]
    grind
  · show z (n - 1 - t) j / z (n - 1 - t) (L t) = 0
    rw [zb t ht j hj]
    grind
/-- a place by another one of the same row: sizes -/
theorem div_bt {M : Nat → Int} {m b w l j : Nat} {u : Nat → Rat} (hu : VB M b w u) (k : MB M m w) (hl : l < w) (hj : j < w) (u0 : u l ≠ 0) : Bt (b + m) (u j / u l).num ∧ Bt (b + m) ((u j / u l).den : Int) := by
  have e1 := nd (u j)
  have e2 := nd (u l)
  have d1 := den0 (u j)
  have d2 := den0 (u l)
  have n2 : (u l).num ≠ 0 := fun z => u0 (num0.mp z)
  have p1 : ((u j).den : Int) ≠ 0 := by have := (u j).den_pos; omega
  have p2 : ((u l).den : Int) ≠ 0 := by have := (u l).den_pos; omega
  have e : (((u j).num * ((u l).den : Int) : Int) : Rat) = u j / u l * (((((u j).den : Int) * (u l).num) : Int) : Rat) := by
    rw [Rat.intCast_mul, Rat.intCast_mul, e1, e2]
    grind
  obtain ⟨q1, q2⟩ := den_dvd (Int.mul_ne_zero p1 n2) e
  refine ⟨?_, dvd_bt q1 (Int.mul_ne_zero p1 n2) (((hu.den k hj).mul (hu.n l hl)).up (by omega))⟩
  by_cases z : (u j).num = 0
  · have : u j / u l = 0 := by rw [num0.mp z]; grind
    rw [this]
    exact Nat.two_pow_pos _
  · exact dvd_bt q2 (Int.mul_ne_zero z p2) ((hu.n j hj).mul (hu.den k hl))
end VM

set_option Elab.async false
set_option maxRecDepth 100000
namespace VM
open RQ
/-- all but two of the products are 0 -/
theorem dot_two {u y : Nat → Rat} {a b : Nat} (ne : a ≠ b) : ∀ {w : Nat}, a < w → b < w → (∀ j, j < w → j ≠ a → j ≠ b → u j * y j = 0) → dot u y w = u a * y a + u b * y b
  | 0, h, _, _ => absurd h (by omega)
  | w + 1, h1, h2, z => by
    unfold dot
    by_cases ea : a = w
    · subst ea
      rw [dot_one (k := b) (by omega) fun j hj n => z j (by omega) (by omega) n]
      grind
    · by_cases eb : b = w
      · subst eb
        rw [dot_one (k := a) (by omega) fun j hj n => z j (by omega) n (by omega)]
      · rw [dot_two ne (w := w) (by omega) (by omega) fun j hj n1 n2 => z j (by omega) n1 n2, z w (by omega) (fun e => ea e.symm) (fun e => eb e.symm)]
        grind
/-- a column without a lead: what is 0 on all rows, 1 there, and else not 0 at leads of lower columns alone -/
theorem free_col {r w : Nat} {F : Nat → Nat → Rat} {L : Nat → Nat} (E : Rref r w F L) {q : Nat} (hq : q < w) (no : ∀ t, t < r → L t ≠ q) :
    ∃ y : Nat → Rat, y q = 1 ∧ (∀ j, q < j → y j = 0) ∧ (∀ t, t < r → y (L t) = - F t q) ∧ Ann r w F y := by
  have inj : ∀ s t, s < r → t < r → L s = L t → s = t := fun s t hs ht e => by
    rcases Nat.lt_trichotomy s t with h | h | h
    · have := E.up s t h ht; omega
    · exact h
    · have := E.up t s h hs; omega
  have ch : ∀ j, ∃ v : Rat, (j = q → v = 1) ∧ (∀ t, t < r → L t = j → v = - F t q) ∧ (j ≠ q → (∀ t, t < r → L t ≠ j) → v = 0) := fun j => by
    by_cases e : j = q
    · exact ⟨1, fun _ => rfl, fun t ht h => absurd (h.trans e) (no t ht), fun n => absurd e n⟩
    · by_cases h : ∃ t, t < r ∧ L t = j
      · obtain ⟨t, ht, et⟩ := h
        exact ⟨- F t q, fun z => absurd z e, fun s hs es => by rw [inj s t hs ht (by omega)], fun _ z => absurd et (z t ht)⟩
      · exact ⟨0, fun z => absurd z e, fun t ht et => absurd ⟨t, ht, et⟩ h, fun _ _ => rfl⟩
  obtain ⟨y, hy⟩ := Classical.axiomOfChoice ch
  have yL : ∀ t, t < r → y (L t) = - F t q := fun t ht => (hy (L t)).2.1 t ht rfl
  have yq : y q = 1 := (hy q).1 rfl
  refine ⟨y, yq, fun j hj => ?_, yL, fun s hs => ?_⟩
  · by_cases h : ∃ t, t < r ∧ L t = j
    · obtain ⟨t, ht, et⟩ := h
      rw [← et, yL t ht, E.zb t ht q (by omega)]
      grind
    · exact (hy j).2.2 (by omega) fun t ht et => h ⟨t, ht, et⟩
  · rw [dot_two (a := q) (b := L s) (fun e => no s hs e.symm) hq (E.lt s hs) fun j hj n1 n2 => ?_]
    · rw [yq, yL s hs, E.one s hs]
      grind
    · by_cases h : ∃ t, t < r ∧ L t = j
      · obtain ⟨t, ht, et⟩ := h
        have : s ≠ t := fun e => n2 (by rw [← et, e])
        rw [← et, E.off s t hs ht this]
        grind
      · rw [(hy j).2.2 n1 fun t ht et => h ⟨t, ht, et⟩]
        grind
/-- the rows beside one another, with what is wanted -/
def aug (r : Nat) (U : Nat → Nat → Rat) (b : Nat → Rat) (i j : Nat) : Rat := if j < r then U j i else b i
def Indep (r w : Nat) (U : Nat → Nat → Rat) : Prop := ∀ y : Nat → Rat, (∀ i, i < w → dot (fun k => U k i) y r = 0) → ∀ k, k < r → y k = 0
def Solves (r w : Nat) (U : Nat → Nat → Rat) (b x : Nat → Rat) : Prop := ∀ i, i < w → dot (fun k => U k i) x r = b i
theorem dot_aug {r i : Nat} {U : Nat → Nat → Rat} {b y : Nat → Rat} : dot (aug r U b i) y (r + 1) = dot (fun k => U k i) y r + b i * y r := by
  show dot (aug r U b i) y r + aug r U b i r * y r = _
  rw [dot_congr (u := aug r U b i) (u' := fun k => U k i) (y' := y) (fun j hj => by unfold aug; rw [if_pos hj]) fun _ _ => rfl]
  unfold aug
  rw [if_neg (Nat.lt_irrefl r)]
section
variable {c r w : Nat} {F U : Nat → Nat → Rat} {L : Nat → Nat} {b : Nat → Rat}
theorem lead_all (E : Rref c (r + 1) F L) (an : ∀ y, Ann c (r + 1) F y ↔ Ann w (r + 1) (aug r U b) y) (ind : Indep r w U) {q : Nat} (hq : q < r) : ∃ t, t < c ∧ L t = q := by
  refine Classical.byContradiction fun no => ?_
  obtain ⟨y, y1, y2, _, y4⟩ := free_col E (q := q) (by omega) fun t ht e => no ⟨t, ht, e⟩
  have := ind y (fun i hi => by
    have h := (an y).mp y4 i hi
    rw [dot_aug, y2 r hq] at h
    grind) q hq
  rw [y1] at this
  exact absurd this (by decide)
theorem lead_id (E : Rref c (r + 1) F L) (all : ∀ q, q < r → ∃ t, t < c ∧ L t = q) : ∀ t, t < r → t < c ∧ L t = t := by
  have ge : ∀ t, t < c → t ≤ L t := fun t => by
    induction t with
    | zero => intro _; exact Nat.zero_le _
    | succ t ih =>
      intro h
      have := ih (by omega)
      have := E.up t (t + 1) (by omega) h
      omega
  intro t
  induction t using Nat.strongRecOn with
  | ind t ih =>
    intro ht
    obtain ⟨s, hs, e⟩ := all t ht
    have h1 := ge s hs
    by_cases lt : s < t
    · have := (ih s lt (by omega)).2
      omega
    · have : s = t := by omega
      subst this
      exact ⟨hs, e⟩
/-- the rows of what reduced gives: 1 at their place, 0 at the others ahead of the last -/
theorem solve_row (E : Rref c (r + 1) F L) (id : ∀ t, t < r → t < c ∧ L t = t) {s : Nat} (hs : s < r) (x : Nat → Rat) : dot (F s) (fun j => if j < r then x j else -1) (r + 1) = x s - F s r := by
  have hsc := (id s hs).1
  have e1 : F s s = 1 := by
    have := E.one s hsc
    rw [(id s hs).2] at this
    exact this
  rw [dot_two (a := s) (b := r) (by omega) (by omega) (by omega) fun j hj n1 n2 => ?_]
  · simp only [if_pos hs, if_neg (Nat.lt_irrefl r), e1]
    grind
  · have hj2 : j < r := by omega
    have := E.off s j hsc (id j hj2).1 (fun e => n1 e.symm)
    rw [(id j hj2).2] at this
    rw [this]
    grind
theorem solve_yes (E : Rref c (r + 1) F L) (an : ∀ y, Ann c (r + 1) F y ↔ Ann w (r + 1) (aug r U b) y) (ind : Indep r w U) {x : Nat → Rat} (hx : Solves r w U b x) : c = r ∧ ∀ t, t < r → F t r = x t := by
  have id := lead_id E fun q hq => lead_all E an ind hq
  have A : Ann c (r + 1) F (fun j => if j < r then x j else -1) := (an _).mpr fun i hi => by
    rw [dot_aug, dot_congr (u' := fun k => U k i) (y' := x) (fun _ _ => rfl) (fun j hj => if_pos hj), hx i hi, if_neg (Nat.lt_irrefl r)]
    grind
  have ge : r ≤ c := by
    by_cases z : r = 0
    · omega
    · have := (id (r - 1) (by omega)).1
      omega
  refine ⟨?_, fun t ht => ?_⟩
  · refine Nat.le_antisymm (Nat.le_of_not_lt fun lt => ?_) ge
    have hl : L r = r := by
      have h1 := E.lt r lt
      by_cases z : r = 0
      · omega
      · have h2 := E.up (r - 1) r (by omega) lt
        rw [(id (r - 1) (by omega)).2] at h2
        omega
    have h := A r lt
    rw [dot_one (k := r) (by omega) fun j hj n => ?_] at h
    · have e1 := E.one r lt
      rw [hl] at e1
      simp only [if_neg (Nat.lt_irrefl r), e1] at h
      grind
    · rw [E.zb r lt j (by omega)]
      grind
  · have h := A t (id t ht).1
    rw [solve_row E id ht] at h
    grind
theorem solve_no (E : Rref c (r + 1) F L) (an : ∀ y, Ann c (r + 1) F y ↔ Ann w (r + 1) (aug r U b) y) (ind : Indep r w U) (no : ∀ x, ¬ Solves r w U b x) : r < c := by
  have id := lead_id E fun q hq => lead_all E an ind hq
  have ge : r ≤ c := by
    by_cases z : r = 0
    · omega
    · have := (id (r - 1) (by omega)).1
      omega
  refine Nat.lt_of_le_of_ne ge fun e => no (fun t => F t r) fun i hi => ?_
  subst e
  have A : Ann r (r + 1) F (fun j => if j < r then F j r else -1) := fun s hs => by
    rw [solve_row (x := fun j => F j r) E id hs]
    grind
  have h := (an _).mp A i hi
  rw [dot_aug, dot_congr (u' := fun k => U k i) (y' := fun t => F t r) (fun _ _ => rfl) (fun j hj => if_pos hj), if_neg (Nat.lt_irrefl r)] at h
  grind
end
end VM

set_option Elab.async false
set_option maxRecDepth 100000
namespace VM
open RQ
/-- a number over M, its top of at most T bits -/
def Ov (M : Int) (T : Nat) (q : Rat) : Prop := ∃ z : Int, (z : Rat) = q * (M : Rat) ∧ Bt T z
theorem Ov.up {M : Int} {S T : Nat} {q : Rat} (h : Ov M S q) (l : S ≤ T) : Ov M T q := let ⟨z, e, b⟩ := h; ⟨z, e, b.up l⟩
theorem bt0 (T : Nat) : Bt T 0 := Nat.two_pow_pos _
theorem Ov.den {M : Int} {T : Nat} {q : Rat} (h : Ov M T q) (m : M ≠ 0) : (q.den : Int) ∣ M ∧ Bt T q.num := by
  obtain ⟨z, e, b⟩ := h
  obtain ⟨d1, d2⟩ := den_dvd m e
  refine ⟨d1, ?_⟩
  by_cases z0 : z = 0
  · have q0 : q = 0 := by
      have m0 := i0 m
      rw [z0] at e
      have e0 : ((0 : Int) : Rat) = 0 := rfl
      rw [e0] at e
      grind
    rw [q0]
    exact bt0 T
  · exact dvd_bt d2 z0 b
theorem Ov.add {M : Int} {T : Nat} {p q : Rat} (h : Ov M T p) (k : Ov M T q) : Ov M (T + 1) (p + q) := by
  obtain ⟨z, e, b⟩ := h
  obtain ⟨y, f, c⟩ := k
  exact ⟨z + y, by rw [Rat.intCast_add, e, f]; grind, b.add c⟩
theorem Ov.mul {M N : Int} {S T : Nat} {p q : Rat} (h : Ov M S p) (k : Ov N T q) : Ov (M * N) (S + T) (p * q) := by
  obtain ⟨z, e, b⟩ := h
  obtain ⟨y, f, c⟩ := k
  exact ⟨z * y, by rw [Rat.intCast_mul, Rat.intCast_mul, e, f]; grind, b.mul c⟩
theorem Ov.lift {M N : Int} {S T : Nat} {p : Rat} (h : Ov M S p) (b : Bt T N) : Ov (M * N) (S + T) p := by
  obtain ⟨z, e, c⟩ := h
  exact ⟨z * N, by rw [Rat.intCast_mul, Rat.intCast_mul, e]; grind, c.mul b⟩
theorem Ov.zero (M : Int) (T : Nat) : Ov M T 0 := ⟨0, by rw [Rat.zero_mul]; rfl, bt0 T⟩
theorem Ov.one {M : Int} {T : Nat} (b : Bt T M) : Ov M T 1 := ⟨M, by grind, b⟩
theorem Ov.self {T : Nat} {q : Rat} (b : Bt T q.num) : Ov (q.den : Int) T q := ⟨q.num, nd q, b⟩
theorem Ov.comm {M N : Int} {T : Nat} {q : Rat} (h : Ov (M * N) T q) : Ov (N * M) T q := by rw [Int.mul_comm]; exact h
theorem den_ne (q : Rat) : (q.den : Int) ≠ 0 := by have := q.den_pos; omega
theorem Ov.vb {M : Int} {T w : Nat} {u : Nat → Rat} (m : M ≠ 0) (h : ∀ j, j < w → Ov M T (u j)) : VB (fun _ => M) T w u := ⟨fun j hj => ((h j hj).den m).1, fun j hj => ((h j hj).den m).2⟩
/-- numbers times rows, added up -/
theorem Ov.dot {M : Int} {T : Nat} {u y : Nat → Rat} : ∀ {w : Nat}, (∀ j, j < w → Ov M T (u j * y j)) → Ov M (T + w) (dot u y w)
  | 0, _ => Ov.zero M _
  | w + 1, h => by
    have i := Ov.dot (w := w) fun j hj => h j (by omega)
    exact i.add ((h w (by omega)).up (by omega))
/-! ### sums of rows -/
theorem dot_add {u y z : Nat → Rat} : ∀ {w : Nat}, dot u (fun k => y k + z k) w = dot u y w + dot u z w
  | 0 => by unfold dot; grind
  | w + 1 => by
    unfold dot
    rw [dot_add]
    grind
theorem dot_mul {u y : Nat → Rat} {c : Rat} : ∀ {w : Nat}, dot u (fun k => c * y k) w = c * dot u y w
  | 0 => by unfold dot; grind
  | w + 1 => by
    unfold dot
    rw [dot_mul]
    grind
theorem dot_comm {u y : Nat → Rat} : ∀ {w : Nat}, dot u y w = dot y u w
  | 0 => rfl
  | w + 1 => by
    unfold dot
    rw [dot_comm]
    grind
/-- a sum of sums, the other way about -/
theorem dot_swap {x y : Nat → Rat} {B : Nat → Nat → Rat} {p : Nat} : ∀ {r : Nat}, dot x (fun k => dot (B k) y p) r = dot (fun t => dot x (fun k => B k t) r) y p
  | 0 => by
    rw [show dot x (fun k => dot (B k) y p) 0 = 0 from rfl]
    exact (dot_zero fun j _ => by show dot x (fun k => B k j) 0 * y j = 0; rw [show dot x (fun k => B k j) 0 = 0 from rfl]; grind).symm
  | r + 1 => by
    show dot x (fun k => dot (B k) y p) r + x r * dot (B r) y p = _
    rw [dot_swap]
    have e : dot (fun t => dot x (fun k => B k t) (r + 1)) y p = dot (fun t => 1 * (dot x (fun k => B k t) r - (- x r) * B r t)) y p := dot_congr (fun j _ => by show dot x (fun k => B k j) r + x r * B r j = _; grind) fun _ _ => rfl
    rw [e, dot_lin]
    grind
/-- v is the sum of the basis by its numbers at the leads -/
def InSp (p w : Nat) (L : Nat → Nat) (B : Nat → Nat → Rat) (v : Nat → Rat) : Prop := ∀ i, i < w → v i = dot (fun t => v (L t)) (fun t => B t i) p
theorem insp_dot {p w n : Nat} {L : Nat → Nat} {B V : Nat → Nat → Rat} {x : Nat → Rat} (hL : ∀ t, t < p → L t < w) (h : ∀ k, k < n → InSp p w L B (V k)) : InSp p w L B (fun i => dot x (fun k => V k i) n) := fun i hi => by
  show dot x (fun k => V k i) n = dot (fun t => dot x (fun k => V k (L t)) n) (fun t => B t i) p
  rw [← dot_swap (B := fun k t => V k (L t))]
  exact dot_congr (fun _ _ => rfl) fun k hk => by
    exact h k hk i hi
theorem insp_basis {p w : Nat} {L : Nat → Nat} {B : Nat → Nat → Rat} (E : Rref p w B L) {k : Nat} (hk : k < p) : InSp p w L B (B k) := fun i hi => by
  rw [dot_one (k := k) hk fun j hj n => by rw [E.off k j hk hj (fun e => n e.symm)]; grind]
  rw [E.one k hk]
  grind
/-- rows of a triangle over the leads are independent, in any order -/
theorem indep_tri {p w : Nat} {L σ : Nat → Nat} {V : Nat → Nat → Rat} (hL : ∀ t, t < p → L t < w) (up : ∀ k j, k < p → j < p → k < j → V k (L j) = 0) (di : ∀ k, k < p → V k (L k) ≠ 0)
    (s1 : ∀ k, k < p → σ k < p) (s2 : ∀ k j, k < p → j < p → σ k = σ j → k = j) : Indep p w (fun k => V (σ k)) := by
  intro y h
  have key : ∀ d m, d + m = p → ∀ k, k < p → m ≤ σ k → y k = 0 := by
    intro d
    induction d with
    | zero => intro m e k hk l; have := s1 k hk; omega
    | succ d ih =>
      intro m e k hk l
      by_cases lt : m + 1 ≤ σ k
      · exact ih (m + 1) (by omega) k hk lt
      · have em : σ k = m := by omega
        have z := h (L m) (hL m (by omega))
        rw [dot_one (k := k) hk fun j hj n => ?_] at z
        · have := di m (by omega)
          have z : V (σ k) (L m) * y k = 0 := z
          rw [em] at z
          grind
        · show V (σ j) (L m) * y j = 0
          rcases Nat.lt_trichotomy (σ j) m with q | q | q
          · rw [up (σ j) m (s1 j hj) (by omega) q]
            grind
          · exact absurd (s2 j k hj hk (by omega)) n
          · rw [ih (m + 1) (by omega) j hj (by omega)]
            grind
  intro k hk
  exact key p 0 (by omega) k hk (Nat.zero_le _)
end VM

set_option Elab.async false
set_option maxRecDepth 100000
/-! machines in plain Lean: rows, columns, tables and numbers of words; sums over two blocks, over pairs of places -/
namespace VN
open RQ VM
section
variable (n : Nat) (M : Nat → Nat → Nat → Rat)
/-- the row r, then the steps of the letters -/
def row : (Nat → Rat) → List Nat → Nat → Rat
  | r, [] => r
  | r, x :: w => row (fun j => dot r (fun i => M x i j) n) w
/-- the steps of the letters, then the column c -/
def col (c : Nat → Rat) : List Nat → Nat → Rat
  | [] => c
  | x :: w => fun i => dot (M x i) (col c w) n
def unit : Nat → Nat → Rat := fun i j => if i = j then 1 else 0
/-- the product of the steps of the letters, from the first one on -/
def tab (w : List Nat) : Nat → Nat → Rat := fun i => row n M (unit i) w
end
variable {n : Nat} {M : Nat → Nat → Nat → Rat}
theorem row_append : ∀ {u v : List Nat} {r : Nat → Rat}, row n M r (u ++ v) = row n M (row n M r u) v
  | [], _, _ => rfl
  | x :: u, v, r => row_append (u := u)
theorem col_append {c : Nat → Rat} : ∀ {u v : List Nat}, col n M c (u ++ v) = col n M (col n M c v) u
  | [], _ => rfl
  | x :: u, v => by
    show (fun i => dot (M x i) (col n M c (u ++ v)) n) = fun i => dot (M x i) (col n M (col n M c v) u) n
    rw [col_append]
theorem row_congr : ∀ {w : List Nat} {r r' : Nat → Rat}, (∀ j, j < n → r j = r' j) → ∀ j, j < n → row n M r w j = row n M r' w j
  | [], _, _, h => h
  | x :: w, r, r', h => row_congr (w := w) fun j hj => dot_congr h fun _ _ => rfl
theorem col_congr : ∀ {w : List Nat} {c c' : Nat → Rat}, (∀ j, j < n → c j = c' j) → ∀ j, j < n → col n M c w j = col n M c' w j
  | [], _, _, h => h
  | x :: w, c, c', h => fun j hj => dot_congr (fun _ _ => rfl) fun k hk => col_congr (w := w) h k hk
/-- the number from the left and from the right -/
theorem meet {c : Nat → Rat} : ∀ {w : List Nat} {r : Nat → Rat}, dot (row n M r w) c n = dot r (col n M c w) n
  | [], _ => rfl
  | x :: w, r => by
    show dot (row n M (fun j => dot r (fun i => M x i j) n) w) c n = dot r (fun i => dot (M x i) (col n M c w) n) n
    rw [meet (w := w), dot_swap]
/-- the number of u followed by v is the row of u with the column of v -/
theorem meet_append {r c : Nat → Rat} {u v : List Nat} : dot (row n M r (u ++ v)) c n = dot (row n M r u) (col n M c v) n := by
  rw [row_append]
  exact meet
theorem unit_dot {y : Nat → Rat} {i : Nat} (h : i < n) : dot (unit i) y n = y i := by
  rw [dot_one (k := i) h fun j _ ne => by unfold unit; rw [if_neg (Ne.symm ne), Rat.zero_mul]]
  unfold unit
  rw [if_pos rfl, Rat.one_mul]
theorem dot_unit {y : Nat → Rat} {j : Nat} (h : j < n) : dot y (fun i => unit i j) n = y j := by
  rw [dot_one (k := j) h fun i _ ne => by unfold unit; rw [if_neg ne, Rat.mul_zero]]
  unfold unit
  rw [if_pos rfl, Rat.mul_one]
/-- a row of the table -/
theorem row_tab {j : Nat} (hj : j < n) : ∀ {w : List Nat} {r : Nat → Rat}, row n M r w j = dot r (fun i => tab n M w i j) n := by
  intro w
  have at_end : ∀ (r : Nat → Rat), row n M r w j = dot (row n M r w) (fun i => unit i j) n := fun r => (dot_unit hj).symm
  intro r
  rw [at_end r, meet]
  refine dot_congr (fun _ _ => rfl) fun i hi => ?_
  show col n M (fun i => unit i j) w i = row n M (unit i) w j
  rw [at_end (unit i), meet, unit_dot hi]
theorem col_tab {c : Nat → Rat} {w : List Nat} {i : Nat} (hi : i < n) : col n M c w i = dot (tab n M w i) c n := by
  show _ = dot (row n M (unit i) w) c n
  rw [meet, unit_dot hi]
theorem tab_append {u v : List Nat} {i j : Nat} (hj : j < n) : tab n M (u ++ v) i j = dot (tab n M u i) (fun k => tab n M v k j) n := by
  show row n M (unit i) (u ++ v) j = _
  rw [row_append]
  exact row_tab hj
/-! ### sums in two blocks, over pairs -/
theorem dot_two {u y : Nat → Rat} {a : Nat} : ∀ {b : Nat}, dot u y (a + b) = dot u y a + dot (fun i => u (a + i)) (fun i => y (a + i)) b
  | 0 => by
    show dot u y a = dot u y a + 0
    grind
  | b + 1 => by
    show dot u y (a + b) + u (a + b) * y (a + b) = dot u y a + (dot (fun i => u (a + i)) (fun i => y (a + i)) b + u (a + b) * y (a + b))
    rw [dot_two (b := b)]
    grind
theorem dot_scale {u y : Nat → Rat} {c : Rat} : ∀ {w : Nat}, dot (fun k => c * u k) y w = c * dot u y w
  | 0 => by unfold dot; grind
  | w + 1 => by
    unfold dot
    rw [dot_scale]
    grind
/-- the first index counts in steps of b -/
theorem dot_pairs {u y v z : Nat → Rat} {b : Nat} (hb : 0 < b) : ∀ {a : Nat}, dot (fun t => u (t / b) * v (t % b)) (fun t => y (t / b) * z (t % b)) (a * b) = dot u y a * dot v z b
  | 0 => by
    rw [Nat.zero_mul]
    unfold dot
    grind
  | a + 1 => by
    rw [Nat.succ_mul, dot_two, dot_pairs hb (a := a)]
    have e : dot (fun i => u ((a * b + i) / b) * v ((a * b + i) % b)) (fun i => y ((a * b + i) / b) * z ((a * b + i) % b)) b = u a * y a * dot v z b := by
      have d : ∀ i, i < b → (a * b + i) / b = a ∧ (a * b + i) % b = i := fun i hi => by
        rw [Nat.mul_comm]
        refine ⟨?_, ?_⟩
        · rw [Nat.mul_add_div hb, Nat.div_eq_of_lt hi, Nat.add_zero]
        · rw [Nat.mul_add_mod, Nat.mod_eq_of_lt hi]
      have e1 : dot (fun i => u ((a * b + i) / b) * v ((a * b + i) % b)) (fun i => y ((a * b + i) / b) * z ((a * b + i) % b)) b = dot (fun i => u a * v i) (fun i => y a * z i) b :=
        dot_congr (fun i hi => by rw [(d i hi).1, (d i hi).2]) fun i hi => by rw [(d i hi).1, (d i hi).2]
      rw [e1, dot_scale, dot_mul]
      grind
    rw [e]
    show _ = (dot u y a + u a * y a) * dot v z b
    grind
/-! ### machines in two blocks -/
theorem row_add : ∀ {w : List Nat} {r s : Nat → Rat}, row n M (fun j => r j + s j) w = fun j => row n M r w j + row n M s w j
  | [], _, _ => rfl
  | x :: w, r, s => by
    show row n M (fun j => dot (fun i => r i + s i) (fun i => M x i j) n) w = fun j => row n M (fun j => dot r (fun i => M x i j) n) w j + row n M (fun j => dot s (fun i => M x i j) n) w j
    rw [← row_add (w := w)]
    congr 1
    funext j
    rw [dot_comm, dot_add, dot_comm, dot_comm (u := fun i => M x i j) (y := s)]
theorem row_scale {c : Rat} : ∀ {w : List Nat} {r : Nat → Rat}, row n M (fun j => c * r j) w = fun j => c * row n M r w j
  | [], _ => rfl
  | x :: w, r => by
    show row n M (fun j => dot (fun i => c * r i) (fun i => M x i j) n) w = fun j => c * row n M (fun j => dot r (fun i => M x i j) n) w j
    rw [← row_scale (w := w)]
    congr 1
    funext j
    exact dot_scale
theorem col_add : ∀ {w : List Nat} {c d : Nat → Rat}, col n M (fun j => c j + d j) w = fun j => col n M c w j + col n M d w j
  | [], _, _ => rfl
  | x :: w, c, d => by
    show (fun i => dot (M x i) (col n M (fun j => c j + d j) w) n) = fun i => dot (M x i) (col n M c w) n + dot (M x i) (col n M d w) n
    rw [col_add (w := w)]
    funext i
    exact dot_add
theorem col_scale {c : Rat} : ∀ {w : List Nat} {d : Nat → Rat}, col n M (fun j => c * d j) w = fun j => c * col n M d w j
  | [], _ => rfl
  | x :: w, d => by
    show (fun i => dot (M x i) (col n M (fun j => c * d j) w) n) = fun i => c * dot (M x i) (col n M d w) n
    rw [col_scale (w := w)]
    funext i
    exact dot_mul
/-- the step C has A above on the left, B below on the right, U above on the right, and 0 below on the left -/
structure Tri (a b : Nat) (A B U C : Nat → Nat → Nat → Rat) : Prop where
  ul : ∀ x i j, i < a → j < a → C x i j = A x i j
  ur : ∀ x i j, i < a → j < b → C x i (a + j) = U x i j
  ll : ∀ x i j, i < b → j < a → C x (a + i) j = 0
  lr : ∀ x i j, i < b → j < b → C x (a + i) (a + j) = B x i j
section
variable {a b : Nat} {A B U C : Nat → Nat → Nat → Rat}
theorem Tri.left (t : Tri a b A B U C) : ∀ {w : List Nat} {r : Nat → Rat} {j : Nat}, j < a → row (a + b) C r w j = row a A r w j
  | [], _, _, _ => rfl
  | x :: w, r, j, hj => by
    show row (a + b) C (fun j => dot r (fun i => C x i j) (a + b)) w j = row a A (fun j => dot r (fun i => A x i j) a) w j
    rw [t.left (w := w) hj]
    refine row_congr (fun l hl => ?_) j hj
    show dot r (fun i => C x i l) (a + b) = dot r (fun i => A x i l) a
    rw [dot_two, dot_congr (w := a) (fun _ _ => rfl) (fun i hi => t.ul x i l hi hl), dot_zero (w := b) fun i hi => by rw [t.ll x i l hi hl, Rat.mul_zero]]
    grind
theorem Tri.low (t : Tri a b A B U C) {c : Nat → Rat} : ∀ {w : List Nat} {i : Nat}, i < b → col (a + b) C c w (a + i) = col b B (fun i => c (a + i)) w i
  | [], _, _ => rfl
  | x :: w, i, hi => by
    show dot (C x (a + i)) (col (a + b) C c w) (a + b) = dot (B x i) (col b B (fun i => c (a + i)) w) b
    rw [dot_two, dot_zero (w := a) fun j hj => by rw [t.ll x i j hi hj, Rat.zero_mul]]
    rw [dot_congr (w := b) (fun j hj => t.lr x i j hi hj) fun j hj => t.low (w := w) hj]
    grind
/-- all ways to part a word at a letter -/
def cuts : List Nat → List (List Nat × Nat × List Nat)
  | [] => []
  | x :: w => ([], x, w) :: (cuts w).map fun q => (x :: q.1, q.2)
def total {α : Type} (f : α → Rat) : List α → Rat
  | [] => 0
  | q :: l => f q + total f l
theorem total_map {α β : Type} {f : β → Rat} {g : α → β} : ∀ {l : List α}, total f (l.map g) = total (fun q => f (g q)) l
  | [] => rfl
  | q :: l => by
    show f (g q) + total f (l.map g) = f (g q) + total (fun q => f (g q)) l
    rw [total_map]
theorem total_congr {α : Type} {f g : α → Rat} : ∀ {l : List α}, (∀ q, q ∈ l → f q = g q) → total f l = total g l
  | [], _ => rfl
  | q :: l, h => by
    show f q + total f l = g q + total g l
    rw [h q List.mem_cons_self, total_congr fun p hp => h p (List.mem_cons_of_mem _ hp)]
/-- the right block of a row: what stood there goes on, and at each letter something comes over -/
theorem Tri.right (t : Tri a b A B U C) : ∀ {w : List Nat} {r : Nat → Rat} {j : Nat}, j < b → row (a + b) C r w (a + j) = row b B (fun i => r (a + i)) w j + total (fun q => row b B (fun l => dot (row a A r q.1) (fun i => U q.2.1 i l) a) q.2.2 j) (cuts w)
  | [], r, j, _ => by
    show r (a + j) = r (a + j) + 0
    grind
  | x :: w, r, j, hj => by
    show row (a + b) C (fun j => dot r (fun i => C x i j) (a + b)) w (a + j) = _
    rw [t.right (w := w) hj]
    have e1 : ∀ l, l < b → dot r (fun i => C x i (a + l)) (a + b) = dot r (fun i => U x i l) a + dot (fun i => r (a + i)) (fun i => B x i l) b := fun l hl => by
      rw [dot_two, dot_congr (w := a) (fun _ _ => rfl) (fun i hi => t.ur x i l hi hl), dot_congr (w := b) (fun _ _ => rfl) (fun i hi => t.lr x i l hi hl)]
    have e2 : row b B (fun l => dot r (fun i => C x i (a + l)) (a + b)) w j = row b B (fun l => dot r (fun i => U x i l) a) w j + row b B (fun l => dot (fun i => r (a + i)) (fun i => B x i l) b) w j := by
      rw [row_congr e1 j hj, row_add]
    have e3 : total (fun q => row b B (fun l => dot (row a A (fun j => dot r (fun i => C x i j) (a + b)) q.1) (fun i => U q.2.1 i l) a) q.2.2 j) (cuts w) = total (fun q => row b B (fun l => dot (row a A r (x :: q.1)) (fun i => U q.2.1 i l) a) q.2.2 j) (cuts w) :=
      total_congr fun q _ => row_congr (fun l hl => dot_congr (fun i hi => by
        show row a A (fun j => dot r (fun i => C x i j) (a + b)) q.1 i = row a A (fun j => dot r (fun i => A x i j) a) q.1 i
        refine row_congr (fun m hm => ?_) i hi
        show dot r (fun i => C x i m) (a + b) = dot r (fun i => A x i m) a
        rw [dot_two, dot_congr (w := a) (fun _ _ => rfl) (fun i hi => t.ul x i m hi hm), dot_zero (w := b) fun i hi => by rw [t.ll x i m hi hm, Rat.mul_zero]]
        grind) fun _ _ => rfl) j hj
    rw [e2, e3]
    show _ = row b B (fun l => dot (fun i => r (a + i)) (fun i => B x i l) b) w j + (row b B (fun l => dot r (fun i => U x i l) a) w j + total (fun q => row b B (fun l => dot (row a A r q.1) (fun i => U q.2.1 i l) a) q.2.2 j) ((cuts w).map fun q => (x :: q.1, q.2)))
    rw [total_map]
    grind
end
end VN

set_option Elab.async false
set_option maxRecDepth 100000
/-! machines in plain Lean: pairs of states, all choices of places, words backwards, words for letters, all words of a length -/
namespace VN
open RQ VM
variable {n a b : Nat} {M A B C : Nat → Nat → Nat → Rat}
theorem total_append {α : Type} {f : α → Rat} : ∀ {l m : List α}, total f (l ++ m) = total f l + total f m
  | [], m => by
    show total f m = 0 + total f m
    grind
  | q :: l, m => by
    show f q + total f (l ++ m) = f q + total f l + total f m
    rw [total_append]
    grind
/-- the row with r (t / b) times s (t mod b) at t -/
def pair (b : Nat) (r s : Nat → Rat) : Nat → Rat := fun t => r (t / b) * s (t % b)
theorem pair_at {r s : Nat → Rat} {i j : Nat} (h : j < b) : pair b r s (i * b + j) = r i * s j := by
  unfold pair
  rw [Nat.mul_comm, Nat.mul_add_div (by omega), Nat.div_eq_of_lt h, Nat.add_zero, Nat.mul_add_mod, Nat.mod_eq_of_lt h]
theorem div_lt {t : Nat} (h : t < a * b) : t / b < a := Nat.div_lt_of_lt_mul (by rw [Nat.mul_comm]; exact h)
theorem mod_lt {t : Nat} (h : t < a * b) : t % b < b := Nat.mod_lt _ (by
  rcases Nat.eq_zero_or_pos b with z | z
  · rw [z, Nat.mul_zero] at h
    omega
  · exact z)
theorem pos_of {t : Nat} (h : t < a * b) : 0 < b := by
  have := mod_lt h
  omega
/-- the product of two machines -/
theorem both (h : ∀ x s t, s < a * b → t < a * b → C x s t = A x (s / b) (t / b) * B x (s % b) (t % b)) : ∀ {w : List Nat} {r s : Nat → Rat} {t : Nat}, t < a * b → row (a * b) C (pair b r s) w t = row a A r w (t / b) * row b B s w (t % b)
  | [], _, _, _, _ => rfl
  | x :: w, r, s, t, ht => by
    show row (a * b) C (fun j => dot (pair b r s) (fun i => C x i j) (a * b)) w t = row a A (fun j => dot r (fun i => A x i j) a) w (t / b) * row b B (fun j => dot s (fun i => B x i j) b) w (t % b)
    rw [← both h (w := w) ht]
    refine row_congr (fun j hj => ?_) t ht
    show dot (pair b r s) (fun i => C x i j) (a * b) = dot r (fun i => A x i (j / b)) a * dot s (fun i => B x i (j % b)) b
    rw [← dot_pairs (pos_of ht)]
    exact dot_congr (fun _ _ => rfl) fun i hi => h x i j hi hj
/-- all ways to deal the letters of a word out to two words -/
def deals : List Nat → List (List Nat × List Nat)
  | [] => [([], [])]
  | x :: w => ((deals w).map fun q => (x :: q.1, q.2)) ++ (deals w).map fun q => (q.1, x :: q.2)
/-- a letter goes to the one machine or to the other -/
theorem dealt (h : ∀ x s t, s < a * b → t < a * b → C x s t = A x (s / b) (t / b) * unit (s % b) (t % b) + unit (s / b) (t / b) * B x (s % b) (t % b)) :
    ∀ {w : List Nat} {r s : Nat → Rat} {t : Nat}, t < a * b → row (a * b) C (pair b r s) w t = total (fun q => row a A r q.1 (t / b) * row b B s q.2 (t % b)) (deals w)
  | [], r, s, t, _ => by
    show r (t / b) * s (t % b) = r (t / b) * s (t % b) + 0
    grind
  | x :: w, r, s, t, ht => by
    show row (a * b) C (fun j => dot (pair b r s) (fun i => C x i j) (a * b)) w t = total (fun q => row a A r q.1 (t / b) * row b B s q.2 (t % b)) (((deals w).map fun q => (x :: q.1, q.2)) ++ (deals w).map fun q => (q.1, x :: q.2))
    rw [total_append, total_map, total_map]
    show _ = total (fun q => row a A (fun j => dot r (fun i => A x i j) a) q.1 (t / b) * row b B s q.2 (t % b)) (deals w) + total (fun q => row a A r q.1 (t / b) * row b B (fun j => dot s (fun i => B x i j) b) q.2 (t % b)) (deals w)
    rw [← dealt h (w := w) ht, ← dealt h (w := w) ht]
    have e : ∀ j, j < a * b → dot (pair b r s) (fun i => C x i j) (a * b) = pair b (fun j => dot r (fun i => A x i j) a) s j + pair b r (fun j => dot s (fun i => B x i j) b) j := fun j hj => by
      rw [dot_congr (w := a * b) (fun _ _ => rfl) fun i hi => h x i j hi hj, dot_add]
      have e1 : dot (pair b r s) (fun i => A x (i / b) (j / b) * unit (i % b) (j % b)) (a * b) = dot r (fun i => A x i (j / b)) a * dot s (fun i => unit i (j % b)) b := dot_pairs (u := r) (y := fun i => A x i (j / b)) (v := s) (z := fun i => unit i (j % b)) (a := a) (pos_of ht)
      have e2 : dot (pair b r s) (fun i => unit (i / b) (j / b) * B x (i % b) (j % b)) (a * b) = dot r (fun i => unit i (j / b)) a * dot s (fun i => B x i (j % b)) b := dot_pairs (u := r) (y := fun i => unit i (j / b)) (v := s) (z := fun i => B x i (j % b)) (a := a) (pos_of ht)
      rw [e1, e2, dot_unit (mod_lt hj), dot_unit (div_lt hj)]
      rfl
    rw [row_congr e t ht, row_add]
/-- the steps turned about: words backwards -/
theorem turned : ∀ {w : List Nat} {r : Nat → Rat}, row n (fun x i j => M x j i) r w = col n M r w.reverse
  | [], _ => rfl
  | x :: w, r => by
    show row n (fun x i j => M x j i) (fun j => dot r (fun i => M x j i) n) w = _
    rw [turned (w := w), List.reverse_cons, col_append]
    congr 1
    funext j
    exact dot_comm
/-- words for letters -/
theorem putted {f : Nat → List Nat} (h : ∀ x i j, i < n → j < n → C x i j = tab n M (f x) i j) : ∀ {w : List Nat} {r : Nat → Rat} {j : Nat}, j < n → row n C r w j = row n M r (w.flatMap f) j
  | [], _, _, _ => rfl
  | x :: w, r, j, hj => by
    show row n C (fun j => dot r (fun i => C x i j) n) w j = _
    rw [List.flatMap_cons, row_append, putted h (w := w) hj]
    refine row_congr (fun l hl => ?_) j hj
    show dot r (fun i => C x i l) n = row n M r (f x) l
    rw [row_tab hl]
    exact dot_congr (fun _ _ => rfl) fun i hi => h x i l hi hl
/-- all words of m letters of an alphabet of k -/
def words (k : Nat) : Nat → List (List Nat)
  | 0 => [[]]
  | m + 1 => (List.range k).flatMap fun x => (words k m).map (x :: ·)
theorem total_flat {α β : Type} {f : β → Rat} {g : α → List β} : ∀ {l : List α}, total f (l.flatMap g) = total (fun x => total f (g x)) l
  | [] => rfl
  | q :: l => by
    rw [List.flatMap_cons, total_append, total_flat]
    rfl
theorem row_total {α : Type} {r : α → Nat → Rat} {w : List Nat} : ∀ {l : List α} {j : Nat}, j < n → row n M (fun j => total (fun x => r x j) l) w j = total (fun x => row n M (r x) w j) l
  | [], j, hj => by
    have z : ∀ {w : List Nat}, row n M (fun _ => 0) w = fun _ => 0 := by
      intro w
      have := row_scale (n := n) (M := M) (c := 0) (w := w) (r := fun _ => 0)
      simp only [Rat.zero_mul] at this
      exact this
    show row n M (fun _ => 0) w j = 0
    rw [z]
  | q :: l, j, hj => by
    show row n M (fun j => r q j + total (fun x => r x j) l) w j = row n M (r q) w j + total (fun x => row n M (r x) w j) l
    rw [row_add]
    show row n M (r q) w j + row n M (fun j => total (fun x => r x j) l) w j = _
    rw [row_total (l := l) hj]
theorem dot_total {α : Type} {y : α → Nat → Rat} {r : Nat → Rat} : ∀ {l : List α}, dot r (fun i => total (fun x => y x i) l) n = total (fun x => dot r (y x) n) l
  | [] => dot_zero fun _ _ => Rat.mul_zero _
  | q :: l => by
    show dot r (fun i => y q i + total (fun x => y x i) l) n = dot r (y q) n + total (fun x => dot r (y x) n) l
    rw [dot_add, dot_total]
/-- one letter, whose step is the sum of the steps: all words of a length at once -/
theorem summed {k z : Nat} (h : ∀ i j, i < n → j < n → C z i j = total (fun x => M x i j) (List.range k)) : ∀ {m : Nat} {r : Nat → Rat} {j : Nat}, j < n → row n C r (List.replicate m z) j = total (fun w => row n M r w j) (words k m)
  | 0, r, j, _ => by
    show r j = r j + 0
    grind
  | m + 1, r, j, hj => by
    rw [List.replicate_succ]
    show row n C (fun j => dot r (fun i => C z i j) n) (List.replicate m z) j = total (fun w => row n M r w j) ((List.range k).flatMap fun x => (words k m).map (x :: ·))
    rw [total_flat]
    have e : ∀ l, l < n → dot r (fun i => C z i l) n = total (fun x => dot r (fun i => M x i l) n) (List.range k) := fun l hl => by
      rw [dot_congr (w := n) (fun _ _ => rfl) fun i hi => h i l hi hl, dot_total]
    rw [row_congr e j hj, row_total hj]
    refine total_congr fun x _ => ?_
    rw [summed h (m := m) hj, total_map]
    rfl
/-- all ways to part a word behind at least one letter -/
def heads : List Nat → List (List Nat × List Nat)
  | [] => []
  | x :: w => ([x], w) :: (heads w).map fun q => (x :: q.1, q.2)
theorem row_mix {r s : Nat → Rat} {c : Rat} {w : List Nat} {j : Nat} : row n M (fun j => r j + c * s j) w j = row n M r w j + c * row n M s w j := by
  rw [row_add]
  show row n M r w j + row n M (fun j => c * s j) w j = _
  rw [row_scale]
/-- behind each letter the start s comes anew, as often as the end e says, which the start itself does not meet -/
theorem again {s e : Nat → Rat} (h : ∀ x i j, i < n → j < n → C x i j = A x i j + dot (A x i) e n * s j) (z : dot s e n = 0) :
    ∀ {w : List Nat} {r : Nat → Rat} {j : Nat}, j < n → row n C r w j = row n A r w j + total (fun q => dot (row n C r q.1) e n * row n A s q.2 j) (heads w)
  | [], r, j, _ => by
    show r j = r j + 0
    grind
  | x :: w, r, j, hj => by
    have step : ∀ l, l < n → dot r (fun i => C x i l) n = dot r (fun i => A x i l) n + dot (fun j => dot r (fun i => A x i j) n) e n * s l := fun l hl => by
      rw [dot_congr (w := n) (fun _ _ => rfl) fun i hi => h x i l hi hl, dot_add]
      congr 1
      have e1 : dot r (fun i => dot (A x i) e n * s l) n = dot r (fun i => s l * dot (A x i) e n) n := dot_congr (fun _ _ => rfl) fun i _ => Rat.mul_comm _ _
      rw [e1, dot_mul, dot_swap]
      exact Rat.mul_comm _ _
    have r1 : dot (fun j => dot r (fun i => C x i j) n) e n = dot (fun j => dot r (fun i => A x i j) n) e n := by
      rw [dot_congr step fun _ _ => rfl, dot_comm, dot_add, dot_comm]
      have e1 : dot e (fun l => dot (fun j => dot r (fun i => A x i j) n) e n * s l) n = 0 := by
        rw [dot_mul, dot_comm (u := e) (y := s), z, Rat.mul_zero]
      rw [e1]
      grind
    show row n C (fun j => dot r (fun i => C x i j) n) w j = row n A (fun j => dot r (fun i => A x i j) n) w j + (dot (fun j => dot r (fun i => C x i j) n) e n * row n A s w j + total (fun q => dot (row n C r q.1) e n * row n A s q.2 j) ((heads w).map fun q => (x :: q.1, q.2)))
    rw [again h z (w := w) hj, total_map, r1]
    have e2 : row n A (fun j => dot r (fun i => C x i j) n) w j = row n A (fun j => dot r (fun i => A x i j) n) w j + dot (fun j => dot r (fun i => A x i j) n) e n * row n A s w j := by
      rw [row_congr step j hj]
      exact row_mix
    rw [e2]
    show _ + total (fun q => dot (row n C (fun j => dot r (fun i => C x i j) n) q.1) e n * row n A s q.2 j) (heads w) = _
    have e3 : total (fun q => dot (row n C r (x :: q.1)) e n * row n A s q.2 j) (heads w) = total (fun q => dot (row n C (fun j => dot r (fun i => C x i j) n) q.1) e n * row n A s q.2 j) (heads w) := rfl
    rw [← e3]
    grind
end VN

set_option Elab.async false
set_option maxRecDepth 100000
/-! sizes of the rows, columns and numbers of words -/
namespace VN
open RQ VM
def prod (N : Nat → Int) : List Nat → Int
  | [] => 1
  | x :: w => N x * prod N w
theorem prod_ne {N : Nat → Int} (h : ∀ x, N x ≠ 0) : ∀ {w : List Nat}, prod N w ≠ 0
  | [] => by show (1 : Int) ≠ 0; decide
  | x :: w => Int.mul_ne_zero (h x) (prod_ne h)
variable {n a : Nat} {M : Nat → Nat → Nat → Rat} {N : Nat → Int}
theorem row_ov (h : ∀ x i j, i < n → j < n → Ov (N x) a (M x i j)) : ∀ {w : List Nat} {D : Int} {T : Nat} {r : Nat → Rat}, (∀ i, i < n → Ov D T (r i)) → ∀ j, j < n → Ov (D * prod N w) (T + (a + n) * w.length) (row n M r w j)
  | [], D, T, r, hr, j, hj => by
    show Ov (D * 1) (T + (a + n) * 0) (r j)
    rw [Int.mul_one, Nat.mul_zero, Nat.add_zero]
    exact hr j hj
  | x :: w, D, T, r, hr, j, hj => by
    have s : ∀ j, j < n → Ov (D * N x) (T + a + n) (dot r (fun i => M x i j) n) := fun j hj => Ov.dot fun i hi => (hr i hi).mul (h x i j hi hj)
    have e := row_ov h (w := w) s j hj
    have e1 : D * prod N (x :: w) = D * N x * prod N w := (Int.mul_assoc _ _ _).symm
    have e2 : T + (a + n) * (x :: w).length = T + a + n + (a + n) * w.length := by
      rw [List.length_cons, Nat.mul_succ]
      omega
    rw [e1, e2]
    exact e
theorem col_ov (h : ∀ x i j, i < n → j < n → Ov (N x) a (M x i j)) {D : Int} {T : Nat} {c : Nat → Rat} (hc : ∀ i, i < n → Ov D T (c i)) : ∀ {w : List Nat}, ∀ i, i < n → Ov (prod N w * D) ((a + n) * w.length + T) (col n M c w i)
  | [], i, hi => by
    show Ov (1 * D) ((a + n) * 0 + T) (c i)
    rw [Int.one_mul, Nat.mul_zero, Nat.zero_add]
    exact hc i hi
  | x :: w, i, hi => by
    have s := Ov.dot (w := n) (u := M x i) (y := col n M c w) (M := N x * (prod N w * D)) (T := a + ((a + n) * w.length + T)) fun j hj => (h x i j hi hj).mul (col_ov h hc (w := w) j hj)
    have e1 : prod N (x :: w) * D = N x * (prod N w * D) := Int.mul_assoc _ _ _
    have e2 : (a + n) * (x :: w).length + T = a + ((a + n) * w.length + T) + n := by
      rw [List.length_cons, Nat.mul_succ]
      omega
    rw [e1, e2]
    exact s
/-- and what is summed up halfway -/
theorem half_ov {D E : Int} {S T : Nat} {r c : Nat → Rat} (hr : ∀ i, i < n → Ov D S (r i)) (hc : ∀ i, i < n → Ov E T (c i)) {m : Nat} (hm : m ≤ n) : Ov (D * E) (S + T + n) (dot r c m) :=
  (Ov.dot (w := m) fun i hi => (hr i (Nat.lt_of_lt_of_le hi hm)).mul (hc i (Nat.lt_of_lt_of_le hi hm))).up (Nat.add_le_add_left hm _)
/-- the product of the bottoms of the first k numbers -/
def dens (f : Nat → Rat) : Nat → Int
  | 0 => 1
  | k + 1 => dens f k * ((f k).den : Int)
theorem dens_ne {f : Nat → Rat} : ∀ {k : Nat}, dens f k ≠ 0
  | 0 => by show (1 : Int) ≠ 0; decide
  | k + 1 => Int.mul_ne_zero dens_ne (den_ne _)
theorem dens_bt {f : Nat → Rat} {b : Nat} : ∀ {k : Nat}, (∀ i, i < k → Bt b ((f i).den : Int)) → Bt (b * k + 1) (dens f k)
  | 0, _ => by
    show (1 : Nat) < 2 ^ (b * 0 + 1)
    rw [Nat.mul_zero]
    decide
  | k + 1, h => by
    have e := (dens_bt (k := k) fun i hi => h i (by omega)).mul (h k (by omega))
    rw [Nat.mul_succ, Nat.add_right_comm]
    exact e
theorem dens_ov {f : Nat → Rat} {b : Nat} : ∀ {k : Nat}, (∀ i, i < k → Bt b (f i).num ∧ Bt b ((f i).den : Int)) → ∀ i, i < k → Ov (dens f k) (b + (b * k + 1)) (f i)
  | 0, _, i, hi => absurd hi (Nat.not_lt_zero _)
  | k + 1, h, i, hi => by
    rw [Nat.mul_succ]
    rcases Nat.lt_or_eq_of_le (Nat.le_of_lt_succ hi) with q | q
    · have e := (dens_ov (k := k) (fun i hi => h i (by omega)) i q).lift (h k (by omega)).2
      exact e.up (by omega)
    · subst q
      have e := ((Ov.self (h i (by omega)).1).lift (dens_bt (f := f) (b := b) (k := i) fun j hj => (h j (by omega)).2)).comm
      exact e.up (by omega)
/-- .. of a table of n rows of n numbers, read row by row -/
theorem table_ov {n b : Nat} {A : Nat → Nat → Rat} (h : ∀ i j, i < n → j < n → Bt b (A i j).num ∧ Bt b ((A i j).den : Int)) : ∃ N : Int, N ≠ 0 ∧ Bt (b * (n * n) + 1) N ∧ ∀ i j, i < n → j < n → Ov N (b + (b * (n * n) + 1)) (A i j) := by
  have at_ : ∀ t, t < n * n → t / n < n ∧ t % n < n := fun t ht => ⟨div_lt ht, mod_lt ht⟩
  refine ⟨dens (fun t => A (t / n) (t % n)) (n * n), dens_ne, dens_bt fun t ht => (h _ _ (at_ t ht).1 (at_ t ht).2).2, fun i j hi hj => ?_⟩
  have lt : i * n + j < n * n := by
    have : (i + 1) * n ≤ n * n := Nat.mul_le_mul_right n hi
    rw [Nat.succ_mul] at this
    omega
  have e := dens_ov (f := fun t => A (t / n) (t % n)) (b := b) (k := n * n) (fun t ht => h _ _ (at_ t ht).1 (at_ t ht).2) (i * n + j) lt
  have d : (i * n + j) / n = i ∧ (i * n + j) % n = j := by
    have hp : 0 < n := by omega
    rw [Nat.mul_comm]
    exact ⟨by rw [Nat.mul_add_div hp, Nat.div_eq_of_lt hj, Nat.add_zero], by rw [Nat.mul_add_mod, Nat.mod_eq_of_lt hj]⟩
  have e : Ov _ _ (A ((i * n + j) / n) ((i * n + j) % n)) := e
  rw [d.1, d.2] at e
  exact e
end VN

set_option Elab.async false
set_option maxRecDepth 100000
namespace RX
open PySem L2
/-! ### nested data: what stands at a value, and that it stays -/
inductive Dat where
  | non
  | bl (b : Bool)
  | int (i : Int)
  | str (s : Str)
  | rat (q : Rat)
  | tup (ds : List Dat)
  | lst (ds : List Dat)
  | sq (ds : List Dat)
/-- the value holds the data; none of its objects is in N -/
inductive At (C : Addr) (N : Addr → Prop) (H : Hp) : V → Dat → Prop where
  | non : At C N H .non .non
  | bl (b : Bool) : At C N H (.bl b) (.bl b)
  | int (i : Int) : At C N H (.int i) (.int i)
  | str (s : Str) : At C N H (.str s) (.str s)
  | rat {p : Addr} {q : Rat} (h : RatAt C H p q.num (q.den : Int)) (n : ¬ N p) : At C N H (.ref p) (.rat q)
  | tup {p : Addr} {xs : List V} {ds : List Dat} (h : H p = some (.tup xs)) (n : ¬ N p) (l : xs.length = ds.length) (e : ∀ (i : Nat) (x : V) (d : Dat), xs[i]? = some x → ds[i]? = some d → At C N H x d) : At C N H (.ref p) (.tup ds)
  | lst {p : Addr} {xs : List V} {ds : List Dat} (h : H p = some (.lst xs)) (n : ¬ N p) (l : xs.length = ds.length) (e : ∀ (i : Nat) (x : V) (d : Dat), xs[i]? = some x → ds[i]? = some d → At C N H x d) : At C N H (.ref p) (.lst ds)
  | sq {p : Addr} {xs : List V} {ds : List Dat} (h : H p = some (.tup xs) ∨ H p = some (.lst xs)) (n : ¬ N p) (l : xs.length = ds.length) (e : ∀ (i : Nat) (x : V) (d : Dat), xs[i]? = some x → ds[i]? = some d → At C N H x d) : At C N H (.ref p) (.sq ds)
/-- all but what N holds stays -/
structure Keep (N : Addr → Prop) (H H' : Hp) : Prop where
  k : ∀ b o, H b = some o → ¬ N b → H' b = some o
  a : ∀ b, H b ≠ none → H' b ≠ none
def Alc (N : Addr → Prop) (H : Hp) : Prop := ∀ b, N b → H b ≠ none
/-- N and one more -/
def And1 (N : Addr → Prop) (D : Addr) : Addr → Prop := fun b => N b ∨ b = D
def Emp : Addr → Prop := fun _ => False
theorem Keep.refl {N : Addr → Prop} {H : Hp} : Keep N H H := ⟨fun _ _ h _ => h, fun _ h => h⟩
theorem Keep.trans {N : Addr → Prop} {H H1 H2 : Hp} (x : Keep N H H1) (y : Keep N H1 H2) : Keep N H H2 := ⟨fun b o h n => y.k b o (x.k b o h n) n, fun b h => y.a b (x.a b h)⟩
theorem Same.keep {N : Addr → Prop} {H H' : Hp} (s : Same H H') : Keep N H H' := ⟨fun b o h _ => s b o h, fun b h => by
  cases e : H b with
  | none => exact absurd e h
  | some o => rw [s b o e]; intro z; cases z⟩
theorem Keep.same {H H' : Hp} (k : Keep Emp H H') : Same H H' := fun b o h => k.k b o h id
theorem Keep.more {N M : Addr → Prop} {H H' : Hp} (k : Keep N H H') (s : ∀ b, N b → M b) : Keep M H H' := ⟨fun b o h n => k.k b o h fun z => n (s b z), k.a⟩
theorem Keep.upd {N : Addr → Prop} {H : Hp} {D : Addr} {o : HO} (h : N D) : Keep N H (L2.upd H D o) := ⟨fun b o' e n => by
  rw [upd_ne fun z => n (by rw [z]; exact h)]
  exact e, fun b e => by
  by_cases z : b = D
  · rw [z, upd_same]; intro y; cases y
  · rw [upd_ne z]; exact e⟩
theorem Keep.new {N : Addr → Prop} {H : Hp} {D : Addr} {o : HO} (h : H D = none) : Keep N H (L2.upd H D o) := Same.keep (Same.upd h)
theorem Keep.but {N : Addr → Prop} {H H' : Hp} {a : Addr} (b : But a H H') (n : N a) (s : H' a ≠ none) : Keep N H H' := ⟨fun c o h m => b c o h fun z => m (by rw [z]; exact n), fun c h => by
  by_cases e : c = a
  · rw [e]; exact s
  · cases q : H c with
    | none => exact absurd q h
    | some o => rw [b c o q e]; intro y; cases y⟩
theorem Keep.free {N : Addr → Prop} {H H' : Hp} {r : Addr} (k : Keep N H H') (h : H' r = none) : H r = none := by
  cases e : H r with
  | none => rfl
  | some o => exact absurd h (k.a r (by rw [e]; intro z; cases z))
theorem Alc.keep {N M : Addr → Prop} {H H' : Hp} (a : Alc N H) (k : Keep M H H') : Alc N H' := fun b n => k.a b (a b n)
theorem Alc.fresh {N : Addr → Prop} {H : Hp} {r : Addr} (a : Alc N H) (h : H r = none) : ¬ N r := fun n => a r n h
theorem Alc.and {N : Addr → Prop} {H : Hp} {D : Addr} (a : Alc N H) (h : H D ≠ none) : Alc (And1 N D) H := fun b n => by
  rcases n with n | n
  · exact a b n
  · rw [n]; exact h
theorem alc_emp {H : Hp} : Alc Emp H := fun _ h => h.elim
section
variable {C : Addr} {N M : Addr → Prop} {H H' : Hp}
theorem At.keep {v : V} {d : Dat} (h : At C N H v d) (k : Keep N H H') : At C N H' v d := by
  induction h with
  | non => exact .non
  | bl b => exact .bl b
  | int i => exact .int i
  | str s => exact .str s
  | rat h n => obtain ⟨dx, h⟩ := h; exact .rat ⟨dx, k.k _ _ h n⟩ n
  | tup h n l e ih => exact .tup (k.k _ _ h n) n l ih
  | lst h n l e ih => exact .lst (k.k _ _ h n) n l ih
  | sq h n l e ih => exact .sq (h.imp (fun h => k.k _ _ h n) fun h => k.k _ _ h n) n l ih
theorem At.same {v : V} {d : Dat} (h : At C N H v d) (s : Same H H') : At C N H' v d := h.keep (Same.keep s)
/-- a set that holds no more of what is there -/
theorem At.grow {v : V} {d : Dat} (h : At C N H v d) (s : ∀ b, M b → N b ∨ H b = none) : At C M H v d := by
  induction h with
  | non => exact .non
  | bl b => exact .bl b
  | int i => exact .int i
  | str s => exact .str s
  | rat h n =>
    refine .rat h fun z => ?_
    rcases s _ z with y | y
    · exact n y
    · obtain ⟨dx, h⟩ := h; rw [y] at h; cases h
  | tup h n l e ih =>
    refine .tup h (fun z => ?_) l ih
    rcases s _ z with y | y
    · exact n y
    · rw [y] at h; cases h
  | lst h n l e ih =>
    refine .lst h (fun z => ?_) l ih
    rcases s _ z with y | y
    · exact n y
    · rw [y] at h; cases h
  | sq h n l e ih =>
    refine .sq h (fun z => ?_) l ih
    rcases s _ z with y | y
    · exact n y
    · rw [y] at h; rcases h with h | h <;> cases h
theorem At.less {v : V} {d : Dat} (h : At C N H v d) (s : ∀ b, M b → N b) : At C M H v d := h.grow fun b z => .inl (s b z)
/-- with a new list in the set -/
theorem At.and {v : V} {d : Dat} {D : Addr} (h : At C N H v d) (f : H D = none) : At C (And1 N D) H v d := h.grow fun b z => z.imp id fun e => by rw [e]; exact f
theorem At.drop {v : V} {d : Dat} {D : Addr} (h : At C (And1 N D) H v d) : At C N H v d := h.less fun _ z => .inl z
theorem At.notin {p : Addr} {d : Dat} (h : At C N H (.ref p) d) : ¬ N p := by
  cases h <;> assumption
theorem At.there {p : Addr} {d : Dat} (h : At C N H (.ref p) d) : H p ≠ none := by
  cases h with
  | rat h n => obtain ⟨dx, h⟩ := h; rw [h]; intro z; cases z
  | tup h n l e => rw [h]; intro z; cases z
  | lst h n l e => rw [h]; intro z; cases z
  | sq h n l e => rcases h with h | h <;> (rw [h]; intro z; cases z)
theorem At.sqE {p : Addr} {ds : List Dat} (h : At C N H (.ref p) (.sq ds)) : ∃ xs, (H p = some (.tup xs) ∨ H p = some (.lst xs)) ∧ xs.length = ds.length ∧ ∀ (i : Nat) (x : V) (d : Dat), xs[i]? = some x → ds[i]? = some d → At C N H x d := by
  cases h with
  | sq h n l e => exact ⟨_, h, l, e⟩
theorem At.sqV {v : V} {ds : List Dat} (h : At C N H v (.sq ds)) : ∃ p, v = .ref p := by cases h; exact ⟨_, rfl⟩
/-- a list or a tuple is one of either kind -/
inductive Le : Dat → Dat → Prop where
  | refl (d : Dat) : Le d d
  | tupS {ds es : List Dat} (l : ds.length = es.length) (h : ∀ (i : Nat) (d e : Dat), ds[i]? = some d → es[i]? = some e → Le d e) : Le (.tup ds) (.sq es)
  | lstS {ds es : List Dat} (l : ds.length = es.length) (h : ∀ (i : Nat) (d e : Dat), ds[i]? = some d → es[i]? = some e → Le d e) : Le (.lst ds) (.sq es)
theorem At.weak {d e : Dat} (le : Le d e) : ∀ {v : V}, At C N H v d → At C N H v e := by
  induction le with
  | refl d => exact fun h => h
  | tupS l h ih =>
    intro v hv
    obtain ⟨p, rfl⟩ := (by cases hv; exact ⟨_, rfl⟩ : ∃ p, v = .ref p)
    cases hv with
    | tup h1 n l1 e1 =>
      refine .sq (.inl h1) n (by rw [l1, l]) fun i x d hx hd => ?_
      have lt : i < _ := (List.getElem?_eq_some_iff.mp hd).1
      have hd2 := List.getElem?_eq_getElem (l := _) (show i < _ from by rw [← l] at lt; exact lt)
      exact ih i _ d hd2 hd (e1 i x _ hx hd2)
  | lstS l h ih =>
    intro v hv
    obtain ⟨p, rfl⟩ := (by cases hv; exact ⟨_, rfl⟩ : ∃ p, v = .ref p)
    cases hv with
    | lst h1 n l1 e1 =>
      refine .sq (.inr h1) n (by rw [l1, l]) fun i x d hx hd => ?_
      have lt : i < _ := (List.getElem?_eq_some_iff.mp hd).1
      have hd2 := List.getElem?_eq_getElem (l := _) (show i < _ from by rw [← l] at lt; exact lt)
      exact ih i _ d hd2 hd (e1 i x _ hx hd2)
theorem At.tupE {p : Addr} {ds : List Dat} (h : At C N H (.ref p) (.tup ds)) : ∃ xs, H p = some (.tup xs) ∧ xs.length = ds.length ∧ ∀ (i : Nat) (x : V) (d : Dat), xs[i]? = some x → ds[i]? = some d → At C N H x d := by
  cases h with
  | tup h n l e => exact ⟨_, h, l, e⟩
theorem At.lstE {p : Addr} {ds : List Dat} (h : At C N H (.ref p) (.lst ds)) : ∃ xs, H p = some (.lst xs) ∧ xs.length = ds.length ∧ ∀ (i : Nat) (x : V) (d : Dat), xs[i]? = some x → ds[i]? = some d → At C N H x d := by
  cases h with
  | lst h n l e => exact ⟨_, h, l, e⟩
theorem At.tupV {v : V} {ds : List Dat} (h : At C N H v (.tup ds)) : ∃ p, v = .ref p := by cases h; exact ⟨_, rfl⟩
theorem At.lstV {v : V} {ds : List Dat} (h : At C N H v (.lst ds)) : ∃ p, v = .ref p := by cases h; exact ⟨_, rfl⟩
theorem At.ratV {v : V} {q : Rat} (h : At C N H v (.rat q)) : ∃ p, v = .ref p ∧ RatAt C H p q.num (q.den : Int) := by cases h with | rat h n => exact ⟨_, rfl, h⟩
theorem At.intV {v : V} {i : Int} (h : At C N H v (.int i)) : v = .int i := by cases h; rfl
theorem At.strV {v : V} {s : Str} (h : At C N H v (.str s)) : v = .str s := by cases h; rfl
/-- the items, by a function -/
def rng (n : Nat) (f : Nat → Dat) : List Dat := (List.range n).map f
theorem rng_len {n : Nat} {f : Nat → Dat} : (rng n f).length = n := by unfold rng; rw [List.length_map, List.length_range]
theorem rng_get {n i : Nat} {f : Nat → Dat} (h : i < n) : (rng n f)[i]? = some (f i) := by
  unfold rng
  rw [List.getElem?_map, List.getElem?_range h]
  rfl
theorem rng_lt {n i : Nat} {f : Nat → Dat} {d : Dat} (h : (rng n f)[i]? = some d) : i < n ∧ d = f i := by
  have hi : i < n := by
    have := (List.getElem?_eq_some_iff.mp h).1
    rw [rng_len] at this
    exact this
  rw [rng_get hi] at h
  exact ⟨hi, (Option.some.inj h).symm⟩
theorem rng_succ {n : Nat} {f : Nat → Dat} : rng (n + 1) f = rng n f ++ [f n] := by
  unfold rng
  rw [List.range_succ, List.map_append]
  rfl
theorem rng_ext {n : Nat} {f g : Nat → Dat} (h : ∀ i, i < n → f i = g i) : rng n f = rng n g := List.map_congr_left fun i hi => h i (List.mem_range.mp hi)
theorem At.tupR {p : Addr} {n : Nat} {f : Nat → Dat} (h : At C N H (.ref p) (.tup (rng n f))) : ∃ xs, H p = some (.tup xs) ∧ xs.length = n ∧ ∀ i, i < n → ∃ x, xs[i]? = some x ∧ At C N H x (f i) := by
  obtain ⟨xs, hp, l, e⟩ := h.tupE
  rw [rng_len] at l
  refine ⟨xs, hp, l, fun i hi => ?_⟩
  have hx : xs[i]? = some (xs[i]'(by omega)) := List.getElem?_eq_getElem _
  exact ⟨_, hx, e i _ _ hx (rng_get hi)⟩
theorem At.lstR {p : Addr} {n : Nat} {f : Nat → Dat} (h : At C N H (.ref p) (.lst (rng n f))) : ∃ xs, H p = some (.lst xs) ∧ xs.length = n ∧ ∀ i, i < n → ∃ x, xs[i]? = some x ∧ At C N H x (f i) := by
  obtain ⟨xs, hp, l, e⟩ := h.lstE
  rw [rng_len] at l
  refine ⟨xs, hp, l, fun i hi => ?_⟩
  have hx : xs[i]? = some (xs[i]'(by omega)) := List.getElem?_eq_getElem _
  exact ⟨_, hx, e i _ _ hx (rng_get hi)⟩
theorem At.sqR {p : Addr} {n : Nat} {f : Nat → Dat} (h : At C N H (.ref p) (.sq (rng n f))) : ∃ xs, (H p = some (.tup xs) ∨ H p = some (.lst xs)) ∧ xs.length = n ∧ ∀ i, i < n → ∃ x, xs[i]? = some x ∧ At C N H x (f i) := by
  obtain ⟨xs, hp, l, e⟩ := h.sqE
  rw [rng_len] at l
  refine ⟨xs, hp, l, fun i hi => ?_⟩
  have hx : xs[i]? = some (xs[i]'(by omega)) := List.getElem?_eq_getElem _
  exact ⟨_, hx, e i _ _ hx (rng_get hi)⟩
theorem Le.tupR {n : Nat} {f g : Nat → Dat} (h : ∀ i, i < n → Le (f i) (g i)) : Le (.tup (rng n f)) (.sq (rng n g)) := .tupS (by rw [rng_len, rng_len]) fun i d e hd he => by
  obtain ⟨hi, rfl⟩ := rng_lt hd
  obtain ⟨_, rfl⟩ := rng_lt he
  exact h i hi
theorem Le.lstR {n : Nat} {f g : Nat → Dat} (h : ∀ i, i < n → Le (f i) (g i)) : Le (.lst (rng n f)) (.sq (rng n g)) := .lstS (by rw [rng_len, rng_len]) fun i d e hd he => by
  obtain ⟨hi, rfl⟩ := rng_lt hd
  obtain ⟨_, rfl⟩ := rng_lt he
  exact h i hi
/-- a new tuple of what is there -/
theorem At.newT {xs : List V} {ds : List Dat} {r : Addr} (a : Alc N H) (f : H r = none) (l : xs.length = ds.length) (e : ∀ (i : Nat) (x : V) (d : Dat), xs[i]? = some x → ds[i]? = some d → At C N H x d) : At C N (upd H r (.tup xs)) (.ref r) (.tup ds) :=
  .tup upd_same (a.fresh f) l fun i x d hx hd => (e i x d hx hd).keep (Keep.new f)
theorem At.newL {xs : List V} {ds : List Dat} {r : Addr} (a : Alc N H) (f : H r = none) (l : xs.length = ds.length) (e : ∀ (i : Nat) (x : V) (d : Dat), xs[i]? = some x → ds[i]? = some d → At C N H x d) : At C N (upd H r (.lst xs)) (.ref r) (.lst ds) :=
  .lst upd_same (a.fresh f) l fun i x d hx hd => (e i x d hx hd).keep (Keep.new f)
theorem items0 : ∀ (i : Nat) (x : V) (d : Dat), ([] : List V)[i]? = some x → ([] : List Dat)[i]? = some d → At C N H x d := fun i x d h _ => by simp at h
theorem items1 {x : V} {d : Dat} (h : At C N H x d) : ∀ (i : Nat) (y : V) (e : Dat), [x][i]? = some y → [d][i]? = some e → At C N H y e := fun i y e h1 h2 => by
  match i with
  | 0 => cases h1; cases h2; exact h
  | i + 1 => simp at h1
theorem itemsC {x : V} {d : Dat} {xs : List V} {ds : List Dat} (h : At C N H x d) (t : ∀ (i : Nat) (y : V) (e : Dat), xs[i]? = some y → ds[i]? = some e → At C N H y e) : ∀ (i : Nat) (y : V) (e : Dat), (x :: xs)[i]? = some y → (d :: ds)[i]? = some e → At C N H y e := fun i y e h1 h2 => by
  match i with
  | 0 => cases h1; cases h2; exact h
  | i + 1 => exact t i y e h1 h2
/-! ### a list that a comprehension or a loop builds -/
structure Bld (C : Addr) (M N : Addr → Prop) (H0 : Hp) (D : Addr) (ds : List Dat) (H2 : Hp) : Prop where
  xs : ∃ xs, H2 D = some (.lst xs) ∧ xs.length = ds.length ∧ ∀ (i : Nat) (x : V) (d : Dat), xs[i]? = some x → ds[i]? = some d → At C (And1 N D) H2 x d
  k : Keep M H0 H2
theorem bld0 {D : Addr} (f : H D = none) : Bld C M N H D [] (upd H D (.lst [])) := ⟨⟨[], upd_same, rfl, fun i x d h => by simp at h⟩, Keep.new f⟩
theorem Bld.step {H0 H2 H3 : Hp} {D : Addr} {ds : List Dat} {x : V} {d : Dat} (B : Bld C M N H0 D ds H2) (f : H0 D = none) (k : Keep M H2 H3) (s : ∀ b, M b → N b) (nD : ¬ M D) (h : At C (And1 N D) H3 x d) :
    ∃ acc, H3 D = some (.lst acc) ∧ acc.length = ds.length ∧ Bld C M N H0 D (ds ++ [d]) (upd H3 D (.lst (acc ++ [x]))) := by
  obtain ⟨xs, hD, l, e⟩ := B.xs
  have ku : Keep (And1 N D) H3 (upd H3 D (.lst (xs ++ [x]))) := Keep.upd (.inr rfl)
  refine ⟨xs, k.k _ _ hD nD, l, ⟨⟨xs ++ [x], upd_same, by rw [List.length_append, List.length_append, l]; rfl, fun i y z h1 h2 => ?_⟩, ⟨fun b o hb n => ?_, fun b hb => ?_⟩⟩⟩
  · by_cases lt : i < xs.length
    · rw [List.getElem?_append_left lt] at h1
      rw [List.getElem?_append_left (by omega)] at h2
      exact ((e i y z h1 h2).keep (k.more fun b z => .inl (s b z))).keep ku
    · rw [List.getElem?_append_right (by omega)] at h1
      rw [List.getElem?_append_right (by omega), ← l] at h2
      exact (items1 h _ _ _ h1 h2).keep ku
  · rw [upd_ne (ne_of_none hb f)]
    exact k.k _ _ (B.k.k _ _ hb n) n
  · exact (Keep.upd (N := And1 N D) (.inr rfl)).a b (k.a b (B.k.a b hb))
theorem Bld.done {H0 H2 : Hp} {D : Addr} {ds : List Dat} (B : Bld C M N H0 D ds H2) (n : ¬ N D) : At C N H2 (.ref D) (.lst ds) := by
  obtain ⟨xs, hD, l, e⟩ := B.xs
  exact .lst hD n l fun i x d h1 h2 => (e i x d h1 h2).drop
/-- what was there before stays as it is while the list is built -/
theorem Bld.old {H0 H2 : Hp} {D : Addr} {ds : List Dat} {v : V} {d : Dat} (B : Bld C M N H0 D ds H2) (f : H0 D = none) (s : ∀ b, M b → N b) (h : At C N H0 v d) : At C (And1 N D) H2 v d := (h.and f).keep (B.k.more fun b z => .inl (s b z))
theorem Bld.alc {H0 H2 : Hp} {D : Addr} {ds : List Dat} (B : Bld C M N H0 D ds H2) (a : Alc N H0) : Alc (And1 N D) H2 := (a.keep B.k).and (by obtain ⟨xs, hD, _⟩ := B.xs; rw [hD]; intro z; cases z)
end
/-! ### rows, tables, pairs -/
def ratR (w : Nat) (u : Nat → Rat) : Dat := .tup (rng w fun j => .rat (u j))
def ratT (h w : Nat) (U : Nat → Nat → Rat) : Dat := .tup (rng h fun i => ratR w (U i))
def prD (q : Rat) : Dat := .tup [.int q.num, .int (q.den : Int)]
def prL (w : Nat) (u : Nat → Rat) : Dat := .lst (rng w fun j => prD (u j))
def prT (h w : Nat) (U : Nat → Nat → Rat) : Dat := .lst (rng h fun i => prL w (U i))
def intL (w : Nat) (z : Nat → Int) : Dat := .lst (rng w fun j => .int (z j))
theorem At.pair {C : Addr} {N : Addr → Prop} {H : Hp} {v : V} {q : Rat} (h : At C N H v (prD q)) : ∃ p, v = .ref p ∧ PairAt H p q.num (q.den : Int) ∧ ¬ N p := by
  obtain ⟨p, rfl⟩ := h.tupV
  obtain ⟨xs, hp, l, e⟩ := h.tupE
  match xs, l with
  | [x, y], _ =>
    have h0 := (e 0 x _ rfl rfl).intV
    have h1 := (e 1 y _ rfl rfl).intV
    subst h0 h1
    exact ⟨p, rfl, hp, h.notin⟩
theorem at_pair {C : Addr} {N : Addr → Prop} {H : Hp} {p : Addr} {q : Rat} (h : PairAt H p q.num (q.den : Int)) (n : ¬ N p) : At C N H (.ref p) (prD q) := .tup h n rfl (itemsC (.int _) (items1 (.int _)))
theorem pe_fldK {X : Cx} {K : PySem.W.Frag} (hK : X.K = K) {e : Expr} {f : Str} {pos : Pos} {ta : TE} (he : PE X e ta) (hb : attributeBase e f X.env (eval e X.env) = eval e X.env) : PE X (.Attribute e f pos) (tFld K ta f) := by
  subst hK
  exact pe_fld he hb
theorem pi_listK {X : Cx} {tg : Expr} {K : PySem.W.Frag} (hK : X.K = K) {l : Expr} {tl : TE} (hl : PE X l tl) : PI X tg l (iList K tl) := by
  subst hK
  exact pi_list hl
theorem pi_tupK {X : Cx} {tg : Expr} {K : PySem.W.Frag} (hK : X.K = K) {l : Expr} {tl : TE} (hl : PE X l tl) : PI X tg l (iTup K tl) := by
  subst hK
  exact pi_tup hl
theorem itF {b : Bool} {A B : Prop} (h : b = false) (x : B) : if b = true then A else B := by
  subst h
  exact iteF x
theorem itT {b : Bool} {A B : Prop} (h : b = true) (x : A) : if b = true then A else B := by
  subst h
  exact iteT x
theorem ixN_at {n j : Nat} {z : Int} (e : z = (j : Int)) (h : j < n) : ixN n z = some j := by
  subst e
  unfold ixN
  rw [if_pos (by omega), if_pos (by omega)]
  rfl
theorem small_of {n m : Nat} (h : n = m) (l : m ≤ 1000) : n < sizeLine := small1000 (by omega)
end RX

set_option Elab.async false
set_option maxRecDepth 100000
namespace RX
open PySem L2 VM
open RQ (Hg Bt)
abbrev sPlus : Stmt := topS 41
theorem scPlu : FnScope ["one", "two"] ["one", "two"] (defScope sPlus) := ⟨rfl, rfl, rfl, by decide +kernel, rfl, by decide +kernel, by decide +kernel⟩
abbrev sBy : Stmt := topS 42
theorem scBy : FnScope ["one", "two"] ["one", "two"] (defScope sBy) := ⟨rfl, rfl, rfl, by decide +kernel, rfl, by decide +kernel, by decide +kernel⟩
abbrev sSumBy : Stmt := topS 43
theorem scSb : FnScope ["row", "other", "found", "k"] ["row", "other"] (defScope sSumBy) := ⟨rfl, rfl, rfl, by decide +kernel, rfl, by decide +kernel, by decide +kernel⟩
abbrev sEntry : Stmt := topS 38
theorem scEn : FnScope ["tape"] ["tape"] (defScope sEntry) := ⟨rfl, rfl, rfl, by decide +kernel, rfl, by decide +kernel, by decide +kernel⟩
abbrev sGreat : Stmt := topS 37
theorem scGrt : FnScope ["tape", "number", "turn"] ["tape"] (defScope sGreat) := ⟨rfl, rfl, rfl, by decide +kernel, rfl, by decide +kernel, by decide +kernel⟩
def HgQ (q : Rat) : Prop := Hg q.num ∧ Hg (q.den : Int)
abbrev PrQ (H : Hp) (p : Addr) (q : Rat) : Prop := PairAt H p q.num (q.den : Int)
theorem FnOk.weak {P : Program} {w : World} {K : PySem.W.Frag} {mg : Str → Option Value} {base : Heap} {CX : CXT} {k : Nat} {f : Addr} {fd : FuncData} {ps : List Str} {sp sp' : Sp} (F : FnOk P w K mg base CX k f fd ps sp) (h : ∀ vs H Q E, sp' vs H Q E → sp vs H Q E) : FnOk P w K mg base CX k f fd ps sp' :=
  ⟨fun vs H Q E z => F.len vs H Q E (h vs H Q E z), fun A outer s H args us vs Q E a1 a2 a3 a4 z => F.run A outer s H args us vs Q E a1 a2 a3 a4 (h vs H Q E z)⟩
/-- the address alone -/
def K1 (a : Addr) : Addr → Prop := fun b => b = a
theorem Keep.to {a : Addr} {H H' : Hp} (k : Keep (K1 a) H H') : But a H H' := fun b o h n => k.k b o h n
theorem keep_feed {a cl : Addr} {H H' : Hp} (b : But a H H') (f : FeedAt H' a cl) : Keep (K1 a) H H' := Keep.but b rfl f.there
/-- of at most b bits above and below -/
def Bq (b : Nat) (q : Rat) : Prop := Bt b q.num ∧ Bt b (q.den : Int)
theorem Bq.up {b c : Nat} {q : Rat} (h : Bq b q) (l : b ≤ c) : Bq c q := ⟨h.1.up l, h.2.up l⟩
theorem Bq.hg {b : Nat} {q : Rat} (h : Bq b q) (l : b ≤ 60000000) : HgQ q := ⟨⟨b, l, h.1⟩, ⟨b, l, h.2⟩⟩
theorem bq0 {b : Nat} : Bq (b + 1) 0 := ⟨show (0 : Int).natAbs < 2 ^ (b + 1) by have : 0 < 2 ^ (b + 1) := Nat.pow_pos (by decide); omega, show (1 : Int).natAbs < 2 ^ (b + 1) from Nat.one_lt_two_pow (by omega)⟩
theorem bq_low {b : Nat} {n d : Int} {q : Rat} (h : d ≠ 0) (e : (n : Rat) = q * (d : Rat)) (bn : Bt b n) (bd : Bt b d) : Bq b q := by
  obtain ⟨e1, e2⟩ := RQ.low h e
  exact ⟨by rw [← e1]; exact bn.le (RT.top_le h), by rw [← e2]; exact bd.le (RT.bot_le h)⟩
theorem sum_eq {u v : Rat} : ((u.num * (v.den : Int) + v.num * (u.den : Int) : Int) : Rat) = (u + v) * (((u.den : Int) * (v.den : Int) : Int) : Rat) := by
  rw [Rat.intCast_add, Rat.intCast_mul, Rat.intCast_mul, Rat.intCast_mul, RQ.nd u, RQ.nd v]
  grind
theorem mul_eq {u v : Rat} : ((u.num * v.num : Int) : Rat) = (u * v) * (((u.den : Int) * (v.den : Int) : Int) : Rat) := by
  rw [Rat.intCast_mul, Rat.intCast_mul, RQ.nd u, RQ.nd v]
  grind
theorem Bq.mul {a b : Nat} {u v : Rat} (h : Bq a u) (k : Bq b v) : Bq (a + b) (u * v) := bq_low (Int.mul_ne_zero (den_ne u) (den_ne v)) mul_eq (h.1.mul k.1) (h.2.mul k.2)
theorem Bq.add {a b : Nat} {u v : Rat} (h : Bq a u) (k : Bq b v) : Bq (a + b + 1) (u + v) := by
  refine bq_low (Int.mul_ne_zero (den_ne u) (den_ne v)) sum_eq ?_ ((h.2.mul k.2).up (Nat.le_succ _))
  have h1 : Bt (a + b) (u.num * (v.den : Int)) := h.1.mul k.2
  have h2 : Bt (a + b) (v.num * (u.den : Int)) := (k.1.mul h.2).up (by omega)
  exact addB h1 h2
theorem Bq.dot {a b : Nat} {u v : Nat → Rat} : ∀ {n : Nat}, (∀ i, i < n → Bq a (u i)) → (∀ i, i < n → Bq b (v i)) → Bq ((a + b + 1) * n + 1) (dot u v n)
  | 0, _, _ => bq0
  | n + 1, h, k => by
    have x := Bq.dot (n := n) (fun i hi => h i (by omega)) (fun i hi => k i (by omega))
    have y := (h n (by omega)).mul (k n (by omega))
    exact (x.add y).up (by rw [Nat.mul_succ]; omega)
def spPlu (C : Addr) : Sp := fun vs H Q _ => ∃ (N : Addr → Prop) (p q : Addr) (u v : Rat), vs = [.ref p, .ref q] ∧ At C N H (.ref p) (prD u) ∧ At C N H (.ref q) (prD v) ∧ Alc N H ∧ HgQ u ∧ HgQ v ∧ ∀ (r : Addr) (H' : Hp), Same H H' → At C N H' (.ref r) (prD (u + v)) → Q (.ref r) H'
def spBy (C : Addr) : Sp := fun vs H Q _ => ∃ (N : Addr → Prop) (p q : Addr) (u v : Rat), vs = [.ref p, .ref q] ∧ At C N H (.ref p) (prD u) ∧ At C N H (.ref q) (prD v) ∧ Alc N H ∧ HgQ u ∧ HgQ v ∧ ∀ (r : Addr) (H' : Hp), Same H H' → At C N H' (.ref r) (prD (u * v)) → Q (.ref r) H'
/-- sizes that a sum of products wants -/
structure DotOk (n : Nat) (u v : Nat → Rat) : Prop where
  a : ∀ i, i < n → HgQ (u i)
  b : ∀ i, i < n → HgQ (v i)
  p : ∀ i, i < n → HgQ (u i * v i)
  s : ∀ m, m ≤ n → HgQ (dot u v m)
theorem dotOk_bq {a b n : Nat} {u v : Nat → Rat} (hu : ∀ i, i < n → Bq a (u i)) (hv : ∀ i, i < n → Bq b (v i)) (l : (a + b + 1) * n + 1 ≤ 60000000) (l2 : a + b ≤ 60000000) : DotOk n u v :=
  ⟨fun i hi => (hu i hi).hg (by omega), fun i hi => (hv i hi).hg (by omega), fun i hi => ((hu i hi).mul (hv i hi)).hg l2, fun m hm => (Bq.dot (n := m) (fun i hi => hu i (by omega)) fun i hi => hv i (by omega)).hg (Nat.le_trans (Nat.succ_le_succ (Nat.mul_le_mul_left _ hm)) l)⟩
def spSb (C : Addr) : Sp := fun vs H Q _ => ∃ (N : Addr → Prop) (p q : Addr) (n m : Nat) (u v : Nat → Rat), vs = [.ref p, .ref q] ∧ At C N H (.ref p) (prL n u) ∧ At C N H (.ref q) (prL m v) ∧ Alc N H ∧ n ≤ m ∧ m ≤ 1000 ∧ DotOk n u v ∧
  ∀ (r : Addr) (H' : Hp), Same H H' → At C N H' (.ref r) (prD (dot u v n)) → Q (.ref r) H'
def spEn : Sp := fun vs H Q _ => ∃ (a cl : Addr), vs = [.ref a] ∧ FeedAt H a cl ∧ ∀ (x : Int) (H' : Hp), -3 ≤ x → x ≤ 5 → FeedAt H' a cl → But a H H' → Q (.int x) H'
def spGrt : Sp := fun vs H Q _ => ∃ (a cl : Addr), vs = [.ref a] ∧ FeedAt H a cl ∧ ∀ (x : Int) (H' : Hp), 1 ≤ x → Bt 70 x → FeedAt H' a cl → But a H H' → Q (.int x) H'
section
variable {P : Program} {w : World} {K : PySem.W.Frag} {mg : Str → Option Value} {base : Heap}
theorem ne_num {q : Rat} (h : q ≠ 0) : V.int q.num ≠ V.int 0 := fun z => h (RQ.num0.mp (by injection z))
theorem ok_plu {f fL C : Addr} {fd dL : FuncData} (F : Fun K "_law_plus" "_law_plus" sPlus f fd) (cLo : CalN P w K mg base "_law_lowest" 33 ["top", "bottom"] spPairB fL dL) : FnOk P w K mg base CX0 34 f fd ["one", "two"] (spPlu C) := by
  refine F.ok scPlu (fun vs H Q E h => ?_) (fun cdv A outer s H vs Q E hr h => ?_)
  · obtain ⟨N, p, q, u, v, rfl, _⟩ := h
    rfl
  · obtain ⟨N, p, q, u, v, rfl, hp, hq, al, gu, gv, kk⟩ := h
    have hr33 : Room 33 _ := hr
    obtain ⟨_, e, hP, _⟩ := hp.pair
    cases e
    obtain ⟨_, e, hQ, _⟩ := hq.pair
    cases e
    refine ⟨_, pss_cons (ps_if (pt_cmpR op_eq (pe_ix ix_tup (pv 0) pe_int (fun _ _ => rfl)) pe_int (nomark _))
        (pss_one (ps_ret (pv 1)))
        pss_nil)
      (pss_cons (ps_if (pt_cmpR op_eq (pe_ix ix_tup (pv 1) pe_int (fun _ _ => rfl)) pe_int (nomark _))
        (pss_one (ps_ret (pv 0)))
        pss_nil)
      (pss_one (ps_ret (pe_call cLo.G hr33 rfl cLo.m cLo.kp cLo.b .nil pass0 (pa_cons (pe_op op_add (pe_op RQ.op_mulH (pe_ix ix_tup (pv 0) pe_int (fun _ _ => rfl)) (pe_ix ix_tup (pv 1) pe_int (fun _ _ => rfl))) (pe_op RQ.op_mulH (pe_ix ix_tup (pv 1) pe_int (fun _ _ => rfl)) (pe_ix ix_tup (pv 0) pe_int (fun _ _ => rfl)))) (pa_cons (pe_op RQ.op_mulH (pe_ix ix_tup (pv 0) pe_int (fun _ _ => rfl)) (pe_ix ix_tup (pv 1) pe_int (fun _ _ => rfl))) pa_nil)))))), ?_⟩
    refine ⟨_, rfl, p, _, 0, _, rfl, rfl, hP.t, rfl, rfl, _, rfl, ?_⟩
    by_cases z : u = 0
    · refine itT (by rw [show u.num = 0 by rw [z]; rfl, decide_eq_true rfl]) ?_
      exact ⟨_, rfl, kk q H (Same.refl _) (by rw [z, Rat.zero_add]; exact hq)⟩
    refine itF (decide_eq_false (ne_num z)) ?_
    refine ⟨_, rfl, q, _, 0, _, rfl, rfl, hQ.t, rfl, rfl, _, rfl, ?_⟩
    by_cases z2 : v = 0
    · refine itT (by rw [show v.num = 0 by rw [z2]; rfl, decide_eq_true rfl]) ?_
      exact ⟨_, rfl, kk p H (Same.refl _) (by rw [z2, Rat.add_zero]; exact hp)⟩
    refine itF (decide_eq_false (ne_num z2)) ?_
    refine ⟨_, rfl, p, _, 0, _, rfl, rfl, hP.t, rfl, _, rfl, q, _, 1, _, rfl, rfl, hQ.t, rfl, _, _, rfl, rfl, ⟨gu.1, gv.2⟩, _, rfl, q, _, 0, _, rfl, rfl, hQ.t, rfl, _, rfl, p, _, 1, _, rfl, rfl, hP.t, rfl, _, _, rfl, rfl, ⟨gv.1, gu.2⟩, _, _, rfl, rfl, _, rfl, p, _, 1, _, rfl, rfl, hP.t, rfl, _, rfl, q, _, 1, _, rfl, rfl, hQ.t, rfl, _, _, rfl, rfl, ⟨gu.2, gv.2⟩, ?_⟩
    refine ⟨_, _, rfl, Int.mul_ne_zero (den_ne u) (den_ne v), fun r H' s nr hR => kk r H' s ?_⟩
    obtain ⟨q1, q2⟩ := RQ.low (Int.mul_ne_zero (den_ne u) (den_ne v)) (sum_eq (u := u) (v := v))
    rw [q1, q2] at hR
    exact at_pair hR (al.fresh nr)
theorem ok_by {f fL C : Addr} {fd dL : FuncData} (F : Fun K "_law_by" "_law_by" sBy f fd) (cLo : CalN P w K mg base "_law_lowest" 33 ["top", "bottom"] spPairB fL dL) : FnOk P w K mg base CX0 34 f fd ["one", "two"] (spBy C) := by
  refine F.ok scBy (fun vs H Q E h => ?_) (fun cdv A outer s H vs Q E hr h => ?_)
  · obtain ⟨N, p, q, u, v, rfl, _⟩ := h
    rfl
  · obtain ⟨N, p, q, u, v, rfl, hp, hq, al, gu, gv, kk⟩ := h
    have hr33 : Room 33 _ := hr
    obtain ⟨_, e, hP, _⟩ := hp.pair
    cases e
    obtain ⟨_, e, hQ, _⟩ := hq.pair
    cases e
    refine ⟨_, C8.pss_cut (ps_if (PW.pt (pw_or (pt_cmpR op_eq (pe_ix ix_tup (pv 0) pe_int (fun _ _ => rfl)) pe_int (nomark _)) (pw_or1 (pt_cmpR op_eq (pe_ix ix_tup (pv 1) pe_int (fun _ _ => rfl)) pe_int (nomark _)))))
        (pss_one (ps_ret (pe_tup (pa_cons pe_int (pa_cons pe_int pa_nil)))))
        pss_nil)
      (pss_one (ps_ret (pe_call cLo.G hr33 rfl cLo.m cLo.kp cLo.b .nil pass0 (pa_cons (pe_op RQ.op_mulH (pe_ix ix_tup (pv 0) pe_int (fun _ _ => rfl)) (pe_ix ix_tup (pv 1) pe_int (fun _ _ => rfl))) (pa_cons (pe_op RQ.op_mulH (pe_ix ix_tup (pv 0) pe_int (fun _ _ => rfl)) (pe_ix ix_tup (pv 1) pe_int (fun _ _ => rfl))) pa_nil))))), ?_⟩
    have zero : u * v = 0 → (tRet (fun _ H Q => 2 ≤ sizeLine ∧ ∀ r, H r = none → Q (.ref r) (upd H r (.tup [.int 0, .int 1]))) : TS) { nx := fun _ _ => False, rt := Q } [some (.ref p), some (.ref q)] H := fun z => ⟨(by show 2 ≤ sizeLine; decide), fun r nr => kk r _ (Same.upd nr) (by rw [z]; exact at_pair (q := 0) (show PairAt _ r 0 1 from upd_same) (al.fresh nr))⟩
    refine ⟨fun σ' H2 => σ' = [some (.ref p), some (.ref q)] ∧ H2 = H ∧ u ≠ 0 ∧ v ≠ 0, ?_, ?_⟩
    · refine ⟨_, rfl, p, _, 0, _, rfl, rfl, hP.t, rfl, rfl, _, rfl, ?_⟩
      by_cases z : u = 0
      · refine itT (by rw [show u.num = 0 by rw [z]; rfl, decide_eq_true rfl]) ?_
        exact zero (by rw [z, Rat.zero_mul])
      refine itF (decide_eq_false (ne_num z)) ?_
      refine ⟨_, rfl, q, _, 0, _, rfl, rfl, hQ.t, rfl, rfl, _, rfl, ?_⟩
      by_cases z2 : v = 0
      · refine itT (by rw [show v.num = 0 by rw [z2]; rfl, decide_eq_true rfl]) ?_
        exact zero (by rw [z2, Rat.mul_zero])
      exact itF (decide_eq_false (ne_num z2)) ⟨rfl, rfl, z, z2⟩
    · rintro σ' H2 ⟨rfl, rfl, z, z2⟩
      refine ⟨_, rfl, p, _, 0, _, rfl, rfl, hP.t, rfl, _, rfl, q, _, 0, _, rfl, rfl, hQ.t, rfl, _, _, rfl, rfl, ⟨gu.1, gv.1⟩, _, rfl, p, _, 1, _, rfl, rfl, hP.t, rfl, _, rfl, q, _, 1, _, rfl, rfl, hQ.t, rfl, _, _, rfl, rfl, ⟨gu.2, gv.2⟩, ?_⟩
      refine ⟨_, _, rfl, Int.mul_ne_zero (den_ne u) (den_ne v), fun r H' s nr hR => kk r H' s ?_⟩
      obtain ⟨q1, q2⟩ := RQ.low (Int.mul_ne_zero (den_ne u) (den_ne v)) (mul_eq (u := u) (v := v))
      rw [q1, q2] at hR
      exact at_pair hR (al.fresh nr)
theorem ok_sb {f fP fB C : Addr} {fd dP dB : FuncData} (F : Fun K "_law_sum_by" "_law_sum_by" sSumBy f fd) (T : TxtL mg) (cPl : CalN P w K mg base "_law_plus" 34 ["one", "two"] (spPlu C) fP dP) (cBy : CalN P w K mg base "_law_by" 34 ["one", "two"] (spBy C) fB dB) : FnOk P w K mg base CX0 35 f fd ["row", "other"] (spSb C) := by
  refine F.ok scSb (fun vs H Q E h => ?_) (fun cdv A outer s H vs Q E hr h => ?_)
  · obtain ⟨N, p, q, n, m, u, v, rfl, _⟩ := h
    rfl
  · obtain ⟨N, p, q, n, m, u, v, rfl, hp, hq, al, nm, hm, ok, kk⟩ := h
    have hr34 : Room 34 _ := hr
    obtain ⟨xs, hx, lx, ex⟩ := At.lstR hp
    obtain ⟨ys, hy, ly, ey⟩ := At.lstR hq
    refine ⟨_, pss_cons (ps_set (i := 2) scSb.nd rfl (.inl rfl) (pe_tup (pa_cons pe_int (pa_cons pe_int pa_nil))))
      (pss_cons (ps_for PassesOwn.never rfl (pi_range1 (by rfl) T.range (pa_cons (pe_callB call_len_seq (by rfl) T.len PySem.boot_len (pa_cons (pv 0) pa_nil)) pa_nil)) (pg_name (i := 3) scSb.nd rfl (.inl rfl))
        (pss_one (ps_set (i := 2) scSb.nd rfl (.inl rfl) (pe_call cPl.G hr34 rfl cPl.m cPl.kp cPl.b .nil pass0 (pa_cons (pv 2) (pa_cons (pe_call cBy.G hr34 rfl cBy.m cBy.kp cBy.b .nil pass0 (pa_cons (pe_ix ix_list (pv 0) (pv 3) (fun _ _ => rfl)) (pa_cons (pe_ix ix_list (pv 1) (pv 3) (fun _ _ => rfl)) pa_nil))) pa_nil))))))
      (pss_one (ps_ret (pv 2)))), ?_⟩
    refine ⟨(by show 2 ≤ sizeLine; decide), fun t0 nt => ?_⟩
    have s0 : Same H (upd H t0 (.tup [.int 0, .int 1])) := Same.upd nt
    have ht0 : At C N (upd H t0 (.tup [.int 0, .int 1])) (.ref t0) (prD 0) := at_pair (q := 0) (show PairAt _ t0 0 1 from upd_same) (al.fresh nt)
    refine ⟨_, rfl, p, xs, rfl, .inl (SqL.of (s0 _ _ hx)), _, rfl, by rw [lx]; omega, by rw [lx]; omega, for_range (n := xs.length) (fun i σ G => ∃ t o3, σ = [some (.ref p), some (.ref q), some (.ref t), o3] ∧ Same H G ∧ At C N G (.ref t) (prD (dot u v i))) ⟨t0, none, rfl, s0, ht0⟩ ?_ ?_⟩
    · rintro i σ G hi ⟨t, o3, rfl, s1, ht⟩
      rw [lx] at hi
      obtain ⟨x, hx1, hx2⟩ := ex i hi
      obtain ⟨y, hy1, hy2⟩ := ey i (by omega)
      obtain ⟨a, rfl, _⟩ := hx2.pair
      obtain ⟨b, rfl, _⟩ := hy2.pair
      have hxG := s1 _ _ hx
      have hyG := s1 _ _ hy
      refine ⟨_, rfl, _, rfl, _, rfl, p, _, _, _, rfl, rfl, SqL.of hxG, at_of (Int.zero_add _) hx1, _, rfl, _, rfl, q, _, _, _, rfl, rfl, SqL.of hyG, at_of (Int.zero_add _) hy1, N, a, b, u i, v i, rfl, hx2.same s1, hy2.same s1, al.keep (Same.keep (N := Emp) s1), ok.a i hi, ok.b i hi, fun r G2 s2 hr2 => ?_⟩
      refine ⟨N, t, r, dot u v i, u i * v i, rfl, ht.same s2, hr2, al.keep (Same.keep (N := Emp) (s1.trans s2)), ok.s i (by omega), ok.p i hi, fun r3 G3 s3 hr3 => ?_⟩
      exact ⟨r3, _, rfl, (s1.trans s2).trans s3, hr3⟩
    · rintro σ G ⟨t, o3, rfl, s1, ht⟩
      rw [lx] at ht
      exact ⟨_, rfl, kk t G s1 ht⟩
theorem ok_en {f fN : Addr} {fd dN : FuncData} (F : Fun K "_law_entry" "_law_entry" sEntry f fd) (cNx : CalN P w K mg base "_law_next" 1 ["tape", "limit"] spDraw fN dN) : FnOk P w K mg base CX0 2 f fd ["tape"] spEn := by
  refine F.ok scEn (fun vs H Q E h => ?_) (fun cdv A outer s H vs Q E hr h => ?_)
  · obtain ⟨a, cl, rfl, _⟩ := h
    rfl
  · obtain ⟨a, cl, rfl, hF, kk⟩ := h
    have hr1 : Room 1 _ := hr
    refine ⟨_, pss_one (ps_ret (pe_ix ix_list (pe_lst (pa_cons pe_int (pa_cons pe_int (pa_cons pe_int (pa_cons pe_int (pa_cons pe_int (pa_cons pe_int (pa_cons (pe_un un_neg pe_int) (pa_cons pe_int (pa_cons (pe_un un_neg pe_int) (pa_cons pe_int pa_nil))))))))))) (pe_call cNx.G hr1 rfl cNx.m cNx.kp cNx.b .nil pass0 (pa_cons (pv 0) (pa_cons pe_int pa_nil))) (fun _ _ => rfl))), ?_⟩
    refine ⟨_, rfl, _, rfl, (by show 10 ≤ sizeLine; decide), fun l nl => ?_⟩
    have s1 : Same H (upd H l (.lst [.int 0, .int 0, .int 0, .int 0, .int 1, .int 1, .int (-1), .int 2, .int (-3), .int 5])) := Same.upd nl
    have hl : (upd H l (.lst [.int 0, .int 0, .int 0, .int 0, .int 1, .int 1, .int (-1), .int 2, .int (-3), .int 5])) l = some (.lst [.int 0, .int 0, .int 0, .int 0, .int 1, .int 1, .int (-1), .int 2, .int (-3), .int 5]) := upd_same
    generalize upd H l (.lst [.int 0, .int 0, .int 0, .int 0, .int 1, .int 1, .int (-1), .int 2, .int (-3), .int 5]) = H1 at *
    refine ⟨_, rfl, a, cl, 10, rfl, hF.same s1, by decide, by decide, fun y H2 y0 y1 f2 b2 => ?_⟩
    have la : l ≠ a := (hF.ne_new nl).1
    have hl2 := b2 _ _ hl la
    have bb := (Same.but (a := a) s1).trans b2
    have : y = 0 ∨ y = 1 ∨ y = 2 ∨ y = 3 ∨ y = 4 ∨ y = 5 ∨ y = 6 ∨ y = 7 ∨ y = 8 ∨ y = 9 := by omega
    rcases this with rfl | rfl | rfl | rfl | rfl | rfl | rfl | rfl | rfl | rfl <;> exact ⟨l, _, _, _, rfl, rfl, SqL.of hl2, rfl, kk _ H2 (by decide) (by decide) f2 bb⟩
theorem ok_grt {f fN : Addr} {fd dN : FuncData} (F : Fun K "_law_great" "_law_great" sGreat f fd) (T : TxtL mg) (cNx : CalN P w K mg base "_law_next" 1 ["tape", "limit"] spDraw fN dN) : FnOk P w K mg base CX0 2 f fd ["tape"] spGrt := by
  refine F.ok scGrt (fun vs H Q E h => ?_) (fun cdv A outer s H vs Q E hr h => ?_)
  · obtain ⟨a, cl, rfl, _⟩ := h
    rfl
  · obtain ⟨a, cl, rfl, hF, kk⟩ := h
    have hr1 : Room 1 _ := hr
    refine ⟨_, pss_cons (ps_set (i := 1) scGrt.nd rfl (.inl rfl) pe_int)
      (pss_cons (ps_for PassesOwn.never rfl (pi_range1 (by rfl) T.range (pa_cons pe_int pa_nil)) (pg_name (i := 2) scGrt.nd rfl (.inl rfl))
        (pss_one (ps_set (i := 1) scGrt.nd rfl (.inl rfl) (pe_op op_add (pe_op op_mul (pv 1) (pe_op op_pow pe_int pe_int)) (pe_call cNx.G hr1 rfl cNx.m cNx.kp cNx.b .nil pass0 (pa_cons (pv 0) (pa_cons (pe_op op_pow pe_int pe_int) pa_nil)))))))
      (pss_one (ps_ret (pe_op op_add pe_int (pe_op op_mod (pe_callTy call_int1 (by rfl) T.int (by decide +kernel) (pa_cons (pv 1) pa_nil)) (pe_op op_sub (pe_op op_pow pe_int pe_int) pe_int)))))), ?_⟩
    refine ⟨3, rfl, by decide, by decide, for_range (n := 3) (fun i σ G => ∃ (x : Int) (o2 : Option V), σ = [some (.ref a), some (.int x), o2] ∧ 0 ≤ x ∧ x < 10000000 ^ i ∧ FeedAt G a cl ∧ But a H G) ⟨0, none, rfl, by decide, by decide, hF, But.refl a H⟩ ?_ ?_⟩
    · rintro i σ G hi ⟨x, o2, rfl, x0, x1, f1, b1⟩
      refine ⟨_, rfl, _, _, rfl, rfl, (by show (0 : Int) ≤ 7 ∧ (7 : Int) ≤ 1000000 ∧ (10 : Int).natAbs < 2 ^ 64; decide), _, _, rfl, rfl, .inr (by decide), _, rfl, _, _, rfl, rfl, (by show (0 : Int) ≤ 7 ∧ (7 : Int) ≤ 1000000 ∧ (10 : Int).natAbs < 2 ^ 64; decide), a, cl, 10000000, rfl, f1, by decide, by decide, fun y G2 y0 y1 f2 b2 => ?_⟩
      refine ⟨_, _, rfl, rfl, _, _, rfl, ?_, ?_, f2, b1.trans b2⟩
      · show 0 ≤ x * 10000000 + y
        omega
      · show x * 10000000 + y < 10000000 ^ (i + 1)
        rw [Int.pow_succ]
        omega
    · rintro σ G ⟨x, o2, rfl, x0, x1, f1, b1⟩
      refine ⟨_, rfl, .inl ⟨_, rfl, ?_⟩⟩
      refine ⟨_, _, rfl, rfl, (by show (0 : Int) ≤ 20 ∧ (20 : Int) ≤ 1000000 ∧ (10 : Int).natAbs < 2 ^ 64; decide), _, _, rfl, rfl, _, _, rfl, rfl, (by show (0 : Int) < 10 ^ 20 - 1; decide), _, _, rfl, rfl, ?_⟩
      have eT : (10 : Int) ^ Int.toNat 20 - 1 = 99999999999999999999 := by decide
      show Q (.int (1 + x % ((10 : Int) ^ Int.toNat 20 - 1))) G
      rw [eT]
      have e0 := Int.emod_nonneg x (show (99999999999999999999 : Int) ≠ 0 by decide)
      have e1 := Int.emod_lt_of_pos x (show (0 : Int) < 99999999999999999999 by decide)
      exact kk _ G (by omega) (show (1 + x % 99999999999999999999).natAbs < 2 ^ 70 by omega) f1 b1
end
end RX

set_option Elab.async false
set_option maxRecDepth 100000
/-! rows as integers above one bottom -/
namespace VA
open RQ VM
/-- the least bottom for the first w numbers -/
def cb (u : Nat → Rat) : Nat → Nat
  | 0 => 1
  | w + 1 => Nat.lcm (cb u w) (u w).den
theorem cb_pos {u : Nat → Rat} : ∀ {w : Nat}, 0 < cb u w
  | 0 => Nat.one_pos
  | w + 1 => Nat.lcm_pos cb_pos (u w).den_pos
theorem cb_dvd {u : Nat → Rat} : ∀ {w i : Nat}, i < w → (u i).den ∣ cb u w
  | 0, i, h => absurd h (by omega)
  | w + 1, i, h => by
    rcases Nat.lt_or_eq_of_le (Nat.le_of_lt_succ h) with q | q
    · exact Nat.dvd_trans (cb_dvd q) (Nat.dvd_lcm_left _ _)
    · rw [q]; exact Nat.dvd_lcm_right _ _
theorem cb_up {u : Nat → Rat} : ∀ {w i : Nat}, i ≤ w → cb u i ∣ cb u w
  | 0, i, h => by rw [show i = 0 by omega]; exact Nat.dvd_refl _
  | w + 1, i, h => by
    rcases Nat.lt_or_eq_of_le h with q | q
    · exact Nat.dvd_trans (cb_up (by omega)) (Nat.dvd_lcm_left _ _)
    · rw [q]; exact Nat.dvd_refl _
theorem cb_least {u : Nat → Rat} {M : Nat} : ∀ {w : Nat}, (∀ i, i < w → (u i).den ∣ M) → cb u w ∣ M
  | 0, _ => Nat.one_dvd _
  | w + 1, h => Nat.lcm_dvd (cb_least fun i hi => h i (by omega)) (h w (by omega))
/-- .. of the first h rows -/
def cbt (U : Nat → Nat → Rat) (n : Nat) : Nat → Nat
  | 0 => 1
  | h + 1 => Nat.lcm (cbt U n h) (cb (U h) n)
theorem cbt_pos {U : Nat → Nat → Rat} {n : Nat} : ∀ {h : Nat}, 0 < cbt U n h
  | 0 => Nat.one_pos
  | h + 1 => Nat.lcm_pos cbt_pos cb_pos
theorem cbt_row {U : Nat → Nat → Rat} {n : Nat} : ∀ {h i : Nat}, i < h → cb (U i) n ∣ cbt U n h
  | 0, i, hi => absurd hi (by omega)
  | h + 1, i, hi => by
    rcases Nat.lt_or_eq_of_le (Nat.le_of_lt_succ hi) with q | q
    · exact Nat.dvd_trans (cbt_row q) (Nat.dvd_lcm_left _ _)
    · rw [q]; exact Nat.dvd_lcm_right _ _
theorem cbt_up {U : Nat → Nat → Rat} {n : Nat} : ∀ {h i : Nat}, i ≤ h → cbt U n i ∣ cbt U n h
  | 0, i, hi => by rw [show i = 0 by omega]; exact Nat.dvd_refl _
  | h + 1, i, hi => by
    rcases Nat.lt_or_eq_of_le hi with q | q
    · exact Nat.dvd_trans (cbt_up (by omega)) (Nat.dvd_lcm_left _ _)
    · rw [q]; exact Nat.dvd_refl _
theorem cbt_dvd {U : Nat → Nat → Rat} {n h i j : Nat} (hi : i < h) (hj : j < n) : (U i j).den ∣ cbt U n h := Nat.dvd_trans (cb_dvd hj) (cbt_row hi)
theorem cbt_least {U : Nat → Nat → Rat} {n M : Nat} : ∀ {h : Nat}, (∀ i, i < h → ∀ j, j < n → (U i j).den ∣ M) → cbt U n h ∣ M
  | 0, _ => Nat.one_dvd _
  | h + 1, k => Nat.lcm_dvd (cbt_least fun i hi => k i (by omega)) (cb_least (k h (by omega)))
/-- the top of a number above the bottom B -/
def topz (u : Nat → Rat) (B : Int) (j : Nat) : Int := (u j).num * B.fdiv ((u j).den : Int)
theorem topz_eq {u : Nat → Rat} {B : Int} {j : Nat} (d : ((u j).den : Int) ∣ B) : ((topz u B j : Int) : Rat) = u j * (B : Rat) := by
  have e := RT.fdiv_of_dvd (den_ne (u j)) d
  have n := nd (u j)
  unfold topz
  rw [Rat.intCast_mul, n]
  have e2 : ((B.fdiv ((u j).den : Int) : Int) : Rat) * (((u j).den : Int) : Rat) = (B : Rat) := by rw [← Rat.intCast_mul, e]
  grind
theorem of_bt {b : Nat} {x y : Nat} (h : x ∣ y) (p : 0 < y) (k : Bt b (y : Int)) : Bt b (x : Int) := k.le (by rw [Int.natAbs_natCast, Int.natAbs_natCast]; exact Nat.le_of_dvd p h)
theorem fdiv_bt {b : Nat} {B d : Int} (hd : d ≠ 0) (h : d ∣ B) (k : Bt b B) : Bt b (B.fdiv d) := quot_bt h hd k
def wsum (z y : Nat → Int) : Nat → Int
  | 0 => 0
  | n + 1 => wsum z y n + z n * y n
theorem wsum_cast {z y : Nat → Int} : ∀ {n : Nat}, ((wsum z y n : Int) : Rat) = dot (fun i => (z i : Rat)) (fun i => (y i : Rat)) n
  | 0 => rfl
  | n + 1 => by
    show ((wsum z y n + z n * y n : Int) : Rat) = dot _ _ n + _
    rw [Rat.intCast_add, wsum_cast, Rat.intCast_mul]
theorem wsum_list {z y : Nat → Int} : ∀ {n : Nat}, ((List.range n).map fun i => z i * y i).sum = wsum z y n
  | 0 => rfl
  | n + 1 => by
    rw [List.range_succ, List.map_append, List.sum_append, wsum_list]
    show _ + (z n * y n + 0) = _
    rw [Int.add_zero]
    rfl
theorem wsum_congr {z y z' y' : Nat → Int} : ∀ {n : Nat}, (∀ i, i < n → z i = z' i ∧ y i = y' i) → wsum z y n = wsum z' y' n
  | 0, _ => rfl
  | n + 1, h => by
    show wsum z y n + z n * y n = wsum z' y' n + z' n * y' n
    rw [wsum_congr fun i hi => h i (by omega), (h n (by omega)).1, (h n (by omega)).2]
theorem wsum_bt {a b : Nat} {z y : Nat → Int} : ∀ {n : Nat}, (∀ i, i < n → Bt a (z i) ∧ Bt b (y i)) → Bt (a + b + n) (wsum z y n)
  | 0, _ => bt0 _
  | n + 1, h => by
    have i := wsum_bt (n := n) fun i hi => h i (by omega)
    exact i.add (((h n (by omega)).1.mul (h n (by omega)).2).up (by omega))
/-- sizes of a row above its bottom -/
structure SzR (w : Nat) (u : Nat → Rat) (m t : Nat) : Prop where
  b : Bt m ((cb u w : Nat) : Int)
  t : ∀ j, j < w → Bt t (topz u ((cb u w : Nat) : Int) j)
/-- and of a table -/
structure SzT (h w : Nat) (U : Nat → Nat → Rat) (m t : Nat) : Prop where
  b : Bt m ((cbt U w h : Nat) : Int)
  t : ∀ i, i < h → ∀ j, j < w → Bt t (topz (U i) ((cbt U w h : Nat) : Int) j)
theorem topz_num {b : Nat} {u : Nat → Rat} {B : Int} {j : Nat} (d : ((u j).den : Int) ∣ B) (n0 : B ≠ 0) (k : Bt b (topz u B j)) : Bt b (u j).num := by
  have e := RT.fdiv_of_dvd (den_ne (u j)) d
  refine k.le ?_
  unfold topz
  rw [Int.natAbs_mul]
  refine Nat.le_mul_of_pos_right _ ?_
  have : B.fdiv ((u j).den : Int) ≠ 0 := fun z => n0 (by rw [← e, z, Int.zero_mul])
  omega
/-- numbers over a common bottom: their sizes -/
theorem szr_of {w m t : Nat} {u : Nat → Rat} {M : Int} (m0 : M ≠ 0) (bM : Bt m M) (h : ∀ j, j < w → Ov M t (u j)) : SzR w u m t := by
  have dv : cb u w ∣ M.natAbs := cb_least fun i hi => by
    have := ((h i hi).den m0).1
    have := Int.natAbs_dvd_natAbs.mpr this
    rwa [Int.natAbs_natCast] at this
  have p : 0 < M.natAbs := by omega
  have le : cb u w ≤ M.natAbs := Nat.le_of_dvd p dv
  refine ⟨bM.le (by rw [Int.natAbs_natCast]; exact le), fun j hj => ?_⟩
  obtain ⟨z, e, b⟩ := h j hj
  obtain ⟨c, hc⟩ := dv
  have d1 : ((u j).den : Int) ∣ ((cb u w : Nat) : Int) := Int.natCast_dvd_natCast.mpr (cb_dvd hj)
  have e1 := topz_eq d1
  refine b.le ?_
  have c0 : c ≠ 0 := fun y => by rw [y, Nat.mul_zero] at hc; omega
  have sg : M = M.sign * ((cb u w : Nat) : Int) * (c : Int) := by
    have := Int.sign_mul_natAbs M
    rw [hc] at this
    rw [Int.mul_assoc, ← Int.natCast_mul]
    exact this.symm
  have ez : z = M.sign * (c : Int) * topz u ((cb u w : Nat) : Int) j := by
    refine Rat.intCast_inj.mp ?_
    rw [e, Rat.intCast_mul, e1]
    have : (M : Rat) = ((M.sign * ((cb u w : Nat) : Int) * (c : Int) : Int) : Rat) := by rw [← sg]
    rw [this, Rat.intCast_mul, Rat.intCast_mul, Rat.intCast_mul]
    grind
  rw [ez, Int.natAbs_mul, Int.natAbs_mul]
  have s1 : M.sign.natAbs = 1 := Int.natAbs_sign_of_ne_zero m0
  rw [s1, Nat.one_mul, Int.natAbs_natCast]
  exact Nat.le_mul_of_pos_left _ (by omega)
theorem szt_of {h w m t : Nat} {U : Nat → Nat → Rat} {M : Int} (m0 : M ≠ 0) (bM : Bt m M) (k : ∀ i, i < h → ∀ j, j < w → Ov M t (U i j)) : SzT h w U m t := by
  have dv : cbt U w h ∣ M.natAbs := cbt_least fun i hi j hj => by
    have := ((k i hi j hj).den m0).1
    have := Int.natAbs_dvd_natAbs.mpr this
    rwa [Int.natAbs_natCast] at this
  have p : 0 < M.natAbs := by omega
  have le : cbt U w h ≤ M.natAbs := Nat.le_of_dvd p dv
  refine ⟨bM.le (by rw [Int.natAbs_natCast]; exact le), fun i hi j hj => ?_⟩
  obtain ⟨z, e, b⟩ := k i hi j hj
  obtain ⟨c, hc⟩ := dv
  have d1 : ((U i j).den : Int) ∣ ((cbt U w h : Nat) : Int) := Int.natCast_dvd_natCast.mpr (cbt_dvd hi hj)
  have e1 := topz_eq d1
  refine b.le ?_
  have c0 : c ≠ 0 := fun y => by rw [y, Nat.mul_zero] at hc; omega
  have sg : M = M.sign * ((cbt U w h : Nat) : Int) * (c : Int) := by
    have := Int.sign_mul_natAbs M
    rw [hc] at this
    rw [Int.mul_assoc, ← Int.natCast_mul]
    exact this.symm
  have ez : z = M.sign * (c : Int) * topz (U i) ((cbt U w h : Nat) : Int) j := by
    refine Rat.intCast_inj.mp ?_
    rw [e, Rat.intCast_mul, e1]
    have : (M : Rat) = ((M.sign * ((cbt U w h : Nat) : Int) * (c : Int) : Int) : Rat) := by rw [← sg]
    rw [this, Rat.intCast_mul, Rat.intCast_mul, Rat.intCast_mul]
    grind
  rw [ez, Int.natAbs_mul, Int.natAbs_mul]
  have s1 : M.sign.natAbs = 1 := Int.natAbs_sign_of_ne_zero m0
  rw [s1, Nat.one_mul, Int.natAbs_natCast]
  exact Nat.le_mul_of_pos_left _ (by omega)
/-- whole numbers z above B, of at most this many bits, for the numbers q -/
structure Abv (n : Nat) (q : Nat → Rat) (z : Nat → Int) (B : Int) (b t : Nat) : Prop where
  b0 : B ≠ 0
  bb : Bt b B
  eq : ∀ j, j < n → (z j : Rat) = q j * (B : Rat)
  bt : ∀ j, j < n → Bt t (z j)
theorem Abv.up {n b t b' t' : Nat} {q : Nat → Rat} {z : Nat → Int} {B : Int} (h : Abv n q z B b t) (l : b ≤ b') (k : t ≤ t') : Abv n q z B b' t' := ⟨h.b0, h.bb.up l, h.eq, fun j hj => (h.bt j hj).up k⟩
theorem dot_scaled {u y : Nat → Rat} {c d : Rat} : ∀ {w : Nat}, dot (fun i => u i * c) (fun i => y i * d) w = dot u y w * (c * d)
  | 0 => by unfold dot; grind
  | w + 1 => by
    unfold dot
    rw [dot_scaled]
    grind
theorem abv_sum {n b t : Nat} {q : Nat → Rat} {z y : Nat → Int} {B c : Int} {p : Nat → Rat} (h : Abv n q z B b t) (hy : ∀ i, i < n → (y i : Rat) = p i * (c : Rat)) : ((wsum z y n : Int) : Rat) = dot q p n * ((B * c : Int) : Rat) := by
  rw [wsum_cast, dot_congr (u' := fun i => q i * (B : Rat)) (y' := fun i => p i * (c : Rat)) (fun j hj => h.eq j hj) (fun j hj => hy j hj), dot_scaled, Rat.intCast_mul]
theorem cbt_ne {U : Nat → Nat → Rat} {n h : Nat} : ((cbt U n h : Nat) : Int) ≠ 0 := by
  have := cbt_pos (U := U) (n := n) (h := h)
  omega
theorem cb_ne {u : Nat → Rat} {n : Nat} : ((cb u n : Nat) : Int) ≠ 0 := by
  have := cb_pos (u := u) (w := n)
  omega
theorem abv_step {n b t b1 t1 : Nat} {q : Nat → Rat} {z : Nat → Int} {B : Int} {U : Nat → Nat → Rat} (h : Abv n q z B b t) (sz : SzT n n U b1 t1) :
    Abv n (fun j => dot q (fun i => U i j) n) (fun j => wsum z (fun i => topz (U i) ((cbt U n n : Nat) : Int) j) n) (B * ((cbt U n n : Nat) : Int)) (b + b1) (t + t1 + n) :=
  ⟨Int.mul_ne_zero h.b0 cbt_ne, h.bb.mul sz.b, fun j hj => abv_sum (p := fun i => U i j) h fun i hi => topz_eq (Int.natCast_dvd_natCast.mpr (cbt_dvd hi hj)), fun j hj => wsum_bt fun i hi => ⟨h.bt i hi, sz.t i hi j hj⟩⟩
theorem abv_row {n b t : Nat} {u : Nat → Rat} (sz : SzR n u b t) : Abv n u (topz u ((cb u n : Nat) : Int)) ((cb u n : Nat) : Int) b t :=
  ⟨cb_ne, sz.b, fun j hj => topz_eq (Int.natCast_dvd_natCast.mpr (cb_dvd hj)), sz.t⟩
theorem abv_sum' {n b t : Nat} {q : Nat → Rat} {z y : Nat → Int} {B c : Int} {p : Nat → Rat} (h : Abv n q z B b t) (hy : ∀ i, i < n → (y i : Rat) = p i * (c : Rat)) : ((wsum y z n : Int) : Rat) = dot p q n * ((B * c : Int) : Rat) := by
  rw [wsum_cast, dot_congr (u' := fun i => p i * (c : Rat)) (y' := fun i => q i * (B : Rat)) (fun j hj => hy j hj) (fun j hj => h.eq j hj), dot_scaled, Rat.intCast_mul, Rat.mul_comm (c : Rat)]
theorem abv_col {n b t b1 t1 : Nat} {q : Nat → Rat} {z : Nat → Int} {B : Int} {U : Nat → Nat → Rat} (h : Abv n q z B b t) (sz : SzT n n U b1 t1) :
    Abv n (fun i => dot (U i) q n) (fun i => wsum (fun j => topz (U i) ((cbt U n n : Nat) : Int) j) z n) (B * ((cbt U n n : Nat) : Int)) (b + b1) (t1 + t + n) :=
  ⟨Int.mul_ne_zero h.b0 cbt_ne, h.bb.mul sz.b, fun i hi => abv_sum' (p := U i) h fun j hj => topz_eq (Int.natCast_dvd_natCast.mpr (cbt_dvd hi hj)), fun i hi => wsum_bt fun j hj => ⟨sz.t i hi j hj, h.bt j hj⟩⟩
theorem abv_unit {n i : Nat} : Abv n (VN.unit i) (fun j => if i = j then 1 else 0) 1 1 1 :=
  ⟨by decide, show (1 : Int).natAbs < 2 ^ 1 by decide, fun j hj => by
    show (((if i = j then 1 else 0 : Int)) : Rat) = (if i = j then (1 : Rat) else 0) * ((1 : Int) : Rat)
    have one : ((1 : Int) : Rat) = 1 := rfl
    have zero : ((0 : Int) : Rat) = 0 := rfl
    by_cases e : i = j
    · rw [if_pos e, if_pos e, one, Rat.mul_one]
    · rw [if_neg e, if_neg e, zero, one, Rat.mul_one], fun j hj => by
    show ((if i = j then 1 else 0 : Int)).natAbs < 2 ^ 1
    by_cases e : i = j
    · rw [if_pos e]; decide
    · rw [if_neg e]; decide⟩
end VA

set_option Elab.async false
set_option maxRecDepth 100000
set_option exponentiation.threshold 100000
namespace RX
open PySem L2 VA
open RQ (Hg Bt)
/-! ### rows as integers above one bottom -/
abbrev sCbm : Stmt := topS 11
theorem scCbm : FnScope ["row", "bottom", "number"] ["row"] (defScope sCbm) := ⟨rfl, rfl, rfl, by decide +kernel, rfl, by decide +kernel, by decide +kernel⟩
abbrev sTa : Stmt := topS 12
theorem scTa : FnScope ["row", "bottom", "number"] ["row", "bottom"] (defScope sTa) := ⟨rfl, rfl, rfl, by decide +kernel, rfl, by decide +kernel, by decide +kernel⟩
abbrev sRa : Stmt := topS 13
theorem scRa : FnScope ["row", "bottom"] ["row"] (defScope sRa) := ⟨rfl, rfl, rfl, by decide +kernel, rfl, by decide +kernel, by decide +kernel⟩
abbrev sTb : Stmt := topS 14
theorem scTb : FnScope ["table", "bottom", "row"] ["table"] (defScope sTb) := ⟨rfl, rfl, rfl, by decide +kernel, rfl, by decide +kernel, by decide +kernel⟩
abbrev sRts : Stmt := topS 15
theorem scRts : FnScope ["tops", "bottom", "top"] ["tops", "bottom"] (defScope sRts) := ⟨rfl, rfl, rfl, by decide +kernel, rfl, by decide +kernel, by decide +kernel⟩
abbrev sWp : Stmt := topS 16
theorem scWp : FnScope ["one", "other", "mine", "its"] ["one", "other"] (defScope sWp) := ⟨rfl, rfl, rfl, by decide +kernel, rfl, by decide +kernel, by decide +kernel⟩
abbrev sWr : Stmt := topS 17
theorem scWr : FnScope ["row", "square", "sums", "number", "line", "done", "more"] ["row", "square"] (defScope sWr) := ⟨rfl, rfl, rfl, by decide +kernel, rfl, by decide +kernel, by decide +kernel⟩
def iV (w : Nat) (z : Nat → Int) : List V := (List.range w).map fun j => V.int (z j)
theorem iV_len {w : Nat} {z : Nat → Int} : (iV w z).length = w := by unfold iV; rw [List.length_map, List.length_range]
theorem iV_get {w : Nat} {z : Nat → Int} {i : Nat} (h : i < w) : (iV w z)[i]? = some (.int (z i)) := by
  unfold iV
  rw [List.getElem?_map, List.getElem?_range h]
  rfl
theorem iV_lt {w : Nat} {z : Nat → Int} {i : Nat} {x : V} (h : (iV w z)[i]? = some x) : i < w ∧ x = .int (z i) := by
  have hi : i < w := by
    have := (List.getElem?_eq_some_iff.mp h).1
    rw [iV_len] at this
    exact this
  rw [iV_get hi] at h
  exact ⟨hi, (Option.some.inj h).symm⟩
theorem iV_succ {w : Nat} {z : Nat → Int} : iV (w + 1) z = iV w z ++ [.int (z w)] := by
  unfold iV
  rw [List.range_succ, List.map_append]
  rfl
theorem zeros_iV : ∀ {n : Nat}, (List.replicate n [V.int 0]).flatten = iV n fun _ => 0
  | 0 => rfl
  | n + 1 => by
    rw [iV_succ, ← zeros_iV, List.replicate_succ', List.flatten_append]
    rfl
theorem at_ints {C : Addr} {N : Addr → Prop} {H : Hp} {p : Addr} {w : Nat} {z : Nat → Int} (h : H p = some (.lst (iV w z))) (n : ¬ N p) : At C N H (.ref p) (intL w z) :=
  .lst h n (by rw [iV_len, rng_len]) fun i x d hx hd => by
    obtain ⟨hi, rfl⟩ := iV_lt hx
    obtain ⟨_, rfl⟩ := rng_lt hd
    exact .int _
theorem At.ints {C : Addr} {N : Addr → Prop} {H : Hp} {p : Addr} {w : Nat} {z : Nat → Int} (h : At C N H (.ref p) (intL w z)) : H p = some (.lst (iV w z)) := by
  obtain ⟨xs, hp, l, e⟩ := At.lstR h
  rw [hp]
  congr 2
  refine List.ext_getElem? fun i => ?_
  by_cases hi : i < w
  · obtain ⟨x, hx, hd⟩ := e i hi
    rw [hx, iV_get hi, hd.intV]
  · rw [List.getElem?_eq_none (by omega), List.getElem?_eq_none (by rw [iV_len]; omega)]
theorem Hg.bt {b : Nat} {x : Int} (h : Bt b x) (l : b ≤ 60000000) : Hg x := ⟨b, l, h⟩
theorem lt13 {x : Nat} {m : Nat} (h : Bt m (x : Int)) (l : m ≤ 12999) : ((x : Int)).natAbs < 2 ^ 13000 := Nat.lt_of_lt_of_le h (Nat.pow_le_pow_right (by decide) (by omega))
theorem lcmN {a b : Nat} : RT.lcmI (a : Int) (b : Int) = ((Nat.lcm a b : Nat) : Int) := by
  unfold RT.lcmI
  rw [Int.natAbs_natCast, Int.natAbs_natCast]
def spCbm (C : Addr) : Sp := fun vs H Q _ => ∃ (N : Addr → Prop) (p : Addr) (w m : Nat) (u : Nat → Rat), vs = [.ref p] ∧ At C N H (.ref p) (ratR w u) ∧ Bt m ((cb u w : Nat) : Int) ∧ m ≤ 12999 ∧ Q (.int ((cb u w : Nat) : Int)) H
def spTa (C : Addr) : Sp := fun vs H Q _ => ∃ (N : Addr → Prop) (p : Addr) (w b : Nat) (u : Nat → Rat) (B : Int), vs = [.ref p, .int B] ∧ At C N H (.ref p) (ratR w u) ∧ Alc N H ∧ w ≤ 1000 ∧ B ≠ 0 ∧ (∀ j, j < w → ((u j).den : Int) ∣ B) ∧ Bt b B ∧ (∀ j, j < w → Bt b (topz u B j)) ∧ b ≤ 60000000 ∧
  ∀ (r : Addr) (H' : Hp), Same H H' → H r = none → At C N H' (.ref r) (intL w (topz u B)) → Q (.ref r) H'
def absR (w : Nat) (u : Nat → Rat) : Dat := .tup [intL w (topz u ((cb u w : Nat) : Int)), .int ((cb u w : Nat) : Int)]
def absT (h w : Nat) (U : Nat → Nat → Rat) : Dat := .tup [.lst (rng h fun i => intL w (topz (U i) ((cbt U w h : Nat) : Int))), .int ((cbt U w h : Nat) : Int)]
def spRa (C : Addr) : Sp := fun vs H Q _ => ∃ (N : Addr → Prop) (p : Addr) (w m t : Nat) (u : Nat → Rat), vs = [.ref p] ∧ At C N H (.ref p) (ratR w u) ∧ Alc N H ∧ w ≤ 1000 ∧ SzR w u m t ∧ m ≤ 12999 ∧ t ≤ 40000000 ∧
  ∀ (r : Addr) (H' : Hp), Same H H' → H r = none → At C N H' (.ref r) (absR w u) → Q (.ref r) H'
def spTb (C : Addr) : Sp := fun vs H Q _ => ∃ (N : Addr → Prop) (p : Addr) (h w m t : Nat) (U : Nat → Nat → Rat), vs = [.ref p] ∧ At C N H (.ref p) (ratT h w U) ∧ Alc N H ∧ h ≤ 1000 ∧ w ≤ 1000 ∧ SzT h w U m t ∧ m ≤ 12999 ∧ t ≤ 40000000 ∧
  ∀ (r : Addr) (H' : Hp), Same H H' → H r = none → At C N H' (.ref r) (absT h w U) → Q (.ref r) H'
def spRts (C : Addr) : Sp := fun vs H Q _ => ∃ (N : Addr → Prop) (p : Addr) (w : Nat) (z : Nat → Int) (B : Int) (q : Nat → Rat), vs = [.ref p, .int B] ∧ At C N H (.ref p) (intL w z) ∧ Alc N H ∧ w ≤ 1000 ∧ B ≠ 0 ∧ (∀ j, j < w → (z j : Rat) = q j * (B : Rat)) ∧
  ∀ (r : Addr) (H' : Hp), Same H H' → H r = none → At C N H' (.ref r) (ratR w q) → Q (.ref r) H'
def spWp (C : Addr) : Sp := fun vs H Q _ => ∃ (N : Addr → Prop) (p r : Addr) (w : Nat) (z y : Nat → Int), vs = [.ref p, .ref r] ∧ At C N H (.ref p) (intL w z) ∧ At C N H (.ref r) (intL w y) ∧ w ≤ 1000 ∧ (∀ j, j < w → Hg (z j) ∧ Hg (y j)) ∧ ∀ H', Same H H' → Q (.int (wsum z y w)) H'
def spWr (C : Addr) : Sp := fun vs H Q _ => ∃ (N : Addr → Prop) (p r : Addr) (n : Nat) (z : Nat → Int) (y : Nat → Nat → Int), vs = [.ref p, .ref r] ∧ At C N H (.ref p) (intL n z) ∧ At C N H (.ref r) (.lst (rng n fun i => intL n (y i))) ∧ Alc N H ∧ n ≤ 1000 ∧ (∀ i, i < n → Hg (z i)) ∧ (∀ i, i < n → ∀ j, j < n → Hg (y i j)) ∧
  ∀ (q : Addr) (H' : Hp), Same H H' → H q = none → At C N H' (.ref q) (intL n fun j => wsum z (fun i => y i j) n) → Q (.ref q) H'
section
variable {P : Program} {w : World} {K : PySem.W.Frag} {mg : Str → Option Value} {base : Heap}
theorem ok_cbm {f C : Addr} {fd : FuncData} (F : Fun K "common_bottom" "common_bottom" sCbm f fd) (TP : TxtP mg) (TR : TxtR K mg C) : FnOk P w K mg base CX0 1 f fd ["row"] (spCbm C) := by
  refine F.ok scCbm (fun vs H Q E h => ?_) (fun cdv A outer s H vs Q E hr h => ?_)
  · obtain ⟨N, p, w, m, u, rfl, _⟩ := h
    rfl
  · obtain ⟨N, p, w, m, u, rfl, hp, hb, hm, k⟩ := h
    obtain ⟨xs, hx, l, e⟩ := At.tupR hp
    refine ⟨_, pss_cons (ps_set (i := 1) scCbm.nd rfl (.inl rfl) pe_int)
      (pss_cons (ps_for PassesOwn.never rfl (pi_tup (pv 0)) (pg_name (i := 2) scCbm.nd rfl (.inl rfl))
        (pss_one (ps_set (i := 1) scCbm.nd rfl (.inl rfl) (pe_callBfun cr_lcm (by rfl) TP.lcm (pa_cons (pv 1) (pa_cons (pe_fld (pv 2) rfl) pa_nil))))))
      (pss_one (ps_ret (pv 1)))), ?_⟩
    refine ⟨_, rfl, p, rfl, ⟨_, SqT.of hx⟩, for_it (walk_tup (K := K) (a := p) (xs := xs)) (fun i σ H' => ∃ y, σ = [some (.ref p), some (.int ((cb u i : Nat) : Int)), y] ∧ H' = H) ⟨none, rfl, rfl⟩ (fun i σ H' _ h => by obtain ⟨_, _, rfl⟩ := h; exact SqT.of hx) ?_ ?_⟩
    · rintro i x σ H1 H2 hi ⟨y, rfl, rfl⟩ ⟨rfl, hx2⟩
      rw [l] at hi
      obtain ⟨x', hx', hd⟩ := e i hi
      rw [hx'] at hx2
      obtain rfl := Option.some.inj hx2
      obtain ⟨q, rfl, dx, hq⟩ := hd.ratV
      have b1 : Bt m ((cb u i : Nat) : Int) := of_bt (cb_up (by omega)) cb_pos hb
      have b2 : Bt m ((u i).den : Int) := of_bt (cb_dvd hi) cb_pos hb
      refine ⟨_, rfl, _, rfl, q, C, dx, _, _, rfl, hq, TR.cl, TR.nB, rf_bot _ _, _, _, rfl, lt13 b1 hm, lt13 b2 hm, some (.ref q), ?_, rfl⟩
      show [_, some (V.int (RT.lcmI ((cb u i : Nat) : Int) ((u i).den : Int))), _] = _
      rw [lcmN]
      rfl
    · rintro σ H1 ⟨y, rfl, rfl⟩
      rw [l]
      exact ⟨_, rfl, k⟩
theorem ok_ta (B : PL.Big P base) {f C : Addr} {fd : FuncData} (F : Fun K "tops_above" "tops_above" sTa f fd) (TR : TxtR K mg C) : FnOk P w K mg base CX0 33 f fd ["row", "bottom"] (spTa C) := by
  refine F.ok scTa (fun vs H Q E h => ?_) (fun cdv A outer s H vs Q E hr32 h => ?_)
  · obtain ⟨N, p, w, b, u, z, rfl, _⟩ := h
    rfl
  · obtain ⟨N, p, w, b, u, z, rfl, hp, al, hw, z0, dv, bz, bt, hb, k⟩ := h
    obtain ⟨xs, hx, l, e⟩ := At.tupR hp
    refine ⟨_, pss_one (ps_ret (pe_lc (own := [("number", 2)]) (g := gName 2) (tt := tYes) rfl scTa.nd (pi_tup (pv 0)) (blkOk_by (N := ["row", "bottom", "number"]) (sc := (defScope sTa)) (by decide +kernel)) (fun _ _ _ _ _ => (pg_name (i := 2) scTa.nd rfl (.inl rfl))) (fun _ _ _ _ _ => pts_nil) (fun _ _ _ _ _ => (pe_op RQ.op_mulH (pe_fldK (K := K) rfl (pv 2) rfl) (pe_op (PL.op_fdivP B hr32 ⟨_, _, rfl, rfl, rfl, rfl, rfl⟩) (pv 1) (pe_fldK (K := K) rfl (pv 2) rfl)))))), ?_⟩
    refine ⟨_, rfl, p, rfl, ⟨_, SqT.of hx⟩, fun D nD => ?_⟩
    refine lc_it (walk_tup (K := K) (a := p) (xs := xs)) (fun i H' => H' D = some (.lst (iV i (topz u z))) ∧ Same H H') ⟨upd_same, Same.upd nD⟩ (fun i H' _ h => SqT.of (h.2 _ _ hx)) ?_ ?_
    · rintro i x H1 H2 hi ⟨hD, s1⟩ ⟨rfl, hx2⟩
      rw [l] at hi
      obtain ⟨x', hx', hd⟩ := e i hi
      rw [hx'] at hx2
      obtain rfl := Option.some.inj hx2
      obtain ⟨q, rfl, dx, hq⟩ := hd.ratV
      have hq := s1 _ _ hq
      have dz := dv i hi
      have nz := VM.den_ne (u i)
      refine ⟨rfl, _, rfl, q, C, dx, _, _, rfl, hq, TR.cl, TR.nT, rf_top _ _, _, rfl, _, rfl, q, C, dx, _, _, rfl, hq, TR.cl, TR.nB, rf_bot _ _, _, _, rfl, rfl, nz, _, _, rfl, rfl, ⟨⟨b, hb, topz_num dz z0 (bt i hi)⟩, ⟨b, hb, fdiv_bt nz dz bz⟩⟩, _, hD, ?_, ?_, fun c o hc => ?_⟩
      · rw [iV_len]
        exact small1000 (by omega)
      · rw [upd_same, iV_succ]
        rfl
      · rw [upd_ne (ne_of_none hc nD)]
        exact s1 _ _ hc
    · rintro H1 ⟨hD, s1⟩
      rw [l] at hD
      exact k D H1 s1 nD (at_ints hD (al.fresh nD))
theorem ok_ra {f fC fT C : Addr} {fd dC dT : FuncData} (F : Fun K "row_above" "row_above" sRa f fd) (cCb : CalN P w K mg base "common_bottom" 1 ["row"] (spCbm C) fC dC) (cTa : CalN P w K mg base "tops_above" 33 ["row", "bottom"] (spTa C) fT dT) : FnOk P w K mg base CX0 34 f fd ["row"] (spRa C) := by
  refine F.ok scRa (fun vs H Q E h => ?_) (fun cdv A outer s H vs Q E hr h => ?_)
  · obtain ⟨N, p, w, m, t, u, rfl, _⟩ := h
    rfl
  · obtain ⟨N, p, w, m, t, u, rfl, hp, al, hw, sz, hm, ht, k⟩ := h
    have hr1 : Room 1 _ := hr.mono (by decide)
    have hr33 : Room 33 _ := hr
    refine ⟨_, pss_cons (ps_set (i := 1) scRa.nd rfl (.inl rfl) (pe_call cCb.G hr1 rfl cCb.m cCb.kp cCb.b .nil pass0 (pa_cons (pv 0) pa_nil)))
      (pss_one (ps_ret (pe_tup (pa_cons (pe_call cTa.G hr33 rfl cTa.m cTa.kp cTa.b .nil pass0 (pa_cons (pv 0) (pa_cons (pv 1) pa_nil))) (pa_cons (pv 1) pa_nil))))), ?_⟩
    have p0 := cb_pos (u := u) (w := w)
    refine ⟨_, rfl, N, p, w, m, u, rfl, hp, sz.b, hm, ?_⟩
    refine ⟨_, rfl, _, rfl, N, p, w, m + t, u, _, rfl, hp, al, hw, by omega, fun j hj => Int.natCast_dvd_natCast.mpr (cb_dvd hj), sz.b.up (by omega), fun j hj => (sz.t j hj).up (by omega), by omega, fun r H1 s1 nr hr1' => ?_⟩
    refine ⟨_, rfl, (by show 2 ≤ sizeLine; decide), fun q nq => ?_⟩
    exact k q _ (s1.trans (Same.upd nq)) (s1.free nq) (At.newT (al.keep (Same.keep (N := N) s1)) nq rfl (itemsC hr1' (items1 (.int _))))
theorem ok_tb {f fC fT C : Addr} {fd dC dT : FuncData} (F : Fun K "table_above" "table_above" sTb f fd) (TP : TxtP mg) (cCb : CalN P w K mg base "common_bottom" 1 ["row"] (spCbm C) fC dC) (cTa : CalN P w K mg base "tops_above" 33 ["row", "bottom"] (spTa C) fT dT) : FnOk P w K mg base CX0 34 f fd ["table"] (spTb C) := by
  refine F.ok scTb (fun vs H Q E h => ?_) (fun cdv A outer s H vs Q E hr h => ?_)
  · obtain ⟨N, p, h, w, m, t, U, rfl, _⟩ := h
    rfl
  · obtain ⟨N, p, h, w, m, t, U, rfl, hp, al, hh, hw, sz, hm, ht, k⟩ := h
    have hr1 : Room 1 _ := hr.mono (by decide)
    have hr33 : Room 33 _ := hr
    obtain ⟨xs, hx, l, e⟩ := At.tupR hp
    refine ⟨_, pss_cons (ps_set (i := 1) scTb.nd rfl (.inr rfl) pe_int)
      (pss_cons (ps_for PassesOwn.never rfl (pi_tup (pv 0)) (pg_name (i := 2) scTb.nd rfl (.inl rfl))
        (pss_one (ps_set (i := 1) scTb.nd rfl (.inr rfl) (pe_callBfun cr_lcm (by rfl) TP.lcm (pa_cons (pv 1) (pa_cons (pe_call cCb.G hr1 rfl cCb.m cCb.kp cCb.b .nil pass0 (pa_cons (pv 2) pa_nil)) pa_nil))))))
      (pss_one (ps_ret (pe_tup (pa_cons (pe_lc (own := [("row", 2)]) (g := gName 2) (tt := tYes) rfl scTb.nd (pi_tup (pv 0)) (blkOk_by (N := ["table", "bottom", "row"]) (sc := (defScope sTb)) (by decide +kernel)) (fun _ _ _ _ _ => (pg_name (i := 2) scTb.nd rfl (.inl rfl))) (fun _ _ _ _ _ => pts_nil) (fun _ _ _ _ _ => (pe_call cTa.G hr33 rfl cTa.m cTa.kp cTa.b .nil pass0 (pa_cons (pv 2) (pa_cons (pv 1) pa_nil))))) (pa_cons (pv 1) pa_nil)))))), ?_⟩
    have p0 := cbt_pos (U := U) (n := w) (h := h)
    refine ⟨_, rfl, p, rfl, ⟨_, SqT.of hx⟩, for_it (walk_tup (K := K) (a := p) (xs := xs)) (fun i σ H' => ∃ y, σ = [some (.ref p), some (.int ((cbt U w i : Nat) : Int)), y] ∧ H' = H) ⟨none, rfl, rfl⟩ (fun i σ H' _ h => by obtain ⟨_, _, rfl⟩ := h; exact SqT.of hx) ?_ ?_⟩
    · rintro i x σ H1 H2 hi ⟨y, rfl, rfl⟩ ⟨rfl, hx2⟩
      rw [l] at hi
      obtain ⟨x', hx', hd⟩ := e i hi
      rw [hx'] at hx2
      obtain rfl := Option.some.inj hx2
      obtain ⟨q, rfl⟩ := hd.tupV
      have b1 : Bt m ((cbt U w i : Nat) : Int) := of_bt (cbt_up (by omega)) cbt_pos sz.b
      have b2 : Bt m ((cb (U i) w : Nat) : Int) := of_bt (cbt_row hi) cbt_pos sz.b
      refine ⟨_, rfl, _, rfl, N, q, w, m, U i, rfl, hd, b2, hm, _, _, rfl, lt13 b1 hm, lt13 b2 hm, some (.ref q), ?_, rfl⟩
      show [_, some (V.int (RT.lcmI ((cbt U w i : Nat) : Int) ((cb (U i) w : Nat) : Int))), _] = _
      rw [lcmN]
      rfl
    · rintro σ H1 ⟨y, rfl, rfl⟩
      rw [l]
      generalize hB : ((cbt U w h : Nat) : Int) = B at sz
      refine ⟨_, rfl, p, rfl, ⟨_, SqT.of hx⟩, fun D nD => ?_⟩
      have nND := al.fresh nD
      refine lc_it (walk_tup (K := K) (a := p) (xs := xs)) (fun i H' => Bld C Emp N H1 D (rng i fun i => intL w (topz (U i) B)) H') (bld0 nD) (fun i H' _ b => SqT.of (b.k.same _ _ hx)) ?_ ?_
      · rintro i x H2 H3 hi b ⟨rfl, hx2⟩
        rw [l] at hi
        obtain ⟨x', hx', hd⟩ := e i hi
        rw [hx'] at hx2
        obtain rfl := Option.some.inj hx2
        obtain ⟨q, rfl⟩ := hd.tupV
        have szb := sz.b
        rw [hB] at szb
        refine ⟨rfl, _, rfl, _, rfl, And1 N D, q, w, m + t, U i, B, rfl, b.old nD (fun _ z => z.elim) hd, b.alc al, hw, by omega, fun j hj => by rw [← hB]; exact Int.natCast_dvd_natCast.mpr (cbt_dvd hi hj), szb.up (by omega), fun j hj => by rw [← hB]; exact (sz.t i hi j hj).up (by omega), by omega, fun r H4 s4 nr hr4 => ?_⟩
        obtain ⟨acc, h1, h2, h3⟩ := b.step nD (Same.keep s4) (fun _ z => z.elim) id hr4
        refine ⟨acc, h1, by rw [h2, rng_len]; exact small1000 (by omega), ?_⟩
        rw [rng_succ]
        exact h3
      · rintro H2 b
        rw [l] at b
        refine ⟨_, rfl, (by show 2 ≤ sizeLine; decide), fun q nq => ?_⟩
        have hL := b.done nND
        have res := At.newT (xs := [.ref D, .int B]) (ds := [.lst (rng h fun i => intL w (topz (U i) B)), .int B]) (al.keep b.k) nq rfl (itemsC hL (items1 (.int _)))
        refine k q _ (b.k.same.trans (Same.upd nq)) (b.k.same.free nq) ?_
        unfold absT
        rw [hB]
        exact res
theorem make4 {C : Addr} {H : Hp} {t b : Int} {R : VK} {E : XK} {x dx : Addr} (hb : b ≠ 0) (nx : H x = none) (nd : H dx = none) (k : ∀ H' : Hp, Same H H' → RatAt C H' x (RT.top t b) (RT.bot t b) → R .non H') :
    spInitB C (.ref x :: ([.int t, .int b] ++ [])) (upd (upd H dx (.own x)) x (.ins C dx [])) R E :=
  ⟨x, dx, t, b, rfl, upd_same, hb, fun H' hR kp => k H' (Same.made nx nd kp) hR⟩
theorem ok_rts {f fI C : Addr} {fd dI : FuncData} (F : Fun K "ratios" "ratios" sRts f fd) (TP : TxtP mg) (TR : TxtR K mg C) (M : Mk K C fI) (GI : FnOk P w K mg base CX0 33 fI dI ["self", "top", "bottom"] (spInitB C)) (bI : Binds K dI ["self", "top", "bottom"] []) : FnOk P w K mg base CX0 35 f fd ["tops", "bottom"] (spRts C) := by
  refine F.ok scRts (fun vs H Q E h => ?_) (fun cdv A outer s H vs Q E hr h => ?_)
  · obtain ⟨N, p, w, z, B, q, rfl, _⟩ := h
    rfl
  · obtain ⟨N, p, w, z, B, q, rfl, hp, al, hw, b0, e, k⟩ := h
    have hr34 : Room 34 _ := hr
    have hx := hp.ints
    refine ⟨_, pss_one (ps_ret (pe_callTy (T := "tuple") call_tuple_of (by rfl) TP.tup (by decide +kernel) (pa_cons (pe_lc (own := [("top", 2)]) (g := gName 2) (tt := tYes) rfl scRts.nd (pi_list (pv 0)) (blkOk_by (N := ["tops", "bottom", "top"]) (sc := (defScope sRts)) (by decide +kernel)) (fun _ _ _ _ _ => (pg_name (i := 2) scRts.nd rfl (.inl rfl))) (fun _ _ _ _ _ => pts_nil) (fun _ _ _ _ _ => (pe_make M GI hr34 rfl TR.mgC bI .nil pass0 (pa_cons (pv 2) (pa_cons (pv 1) pa_nil))))) pa_nil))), ?_⟩
    refine ⟨_, rfl, p, rfl, ⟨_, SqL.of hx⟩, fun D nD => ?_⟩
    have nND := al.fresh nD
    refine lc_it (walk_list (K := K) (a := p) (xs := iV w z)) (fun i H' => Bld C Emp N H D (rng i fun i => .rat (q i)) H') (bld0 nD) (fun i H' _ b => SqL.of (b.k.same _ _ hx)) ?_ ?_
    · rintro i x H2 H3 hi b ⟨rfl, hx2⟩
      obtain ⟨hi, rfl⟩ := iV_lt hx2
      refine ⟨rfl, _, rfl, _, rfl, fun x dx nx nd _ => make4 b0 nx nd fun H4 s4 hR => ⟨rfl, ?_⟩⟩
      obtain ⟨e1, e2⟩ := RQ.low b0 (e i hi)
      rw [e1, e2] at hR
      obtain ⟨acc, h1, h2, h3⟩ := b.step nD (Same.keep s4) (fun _ z => z.elim) id (.rat hR ((b.alc al).fresh nx))
      refine ⟨acc, h1, by rw [h2, rng_len]; exact small1000 (by omega), ?_⟩
      rw [rng_succ]
      exact h3
    · rintro H2 b
      rw [iV_len] at b
      obtain ⟨xs, hD, l2, e2⟩ := (b.done nND).lstE
      refine ⟨D, xs, rfl, .inl ⟨SqL.of hD, fun r nr => ?_⟩⟩
      exact k r _ (b.k.same.trans (Same.upd nr)) (b.k.same.free nr) (At.newT (al.keep b.k) nr l2 e2)
theorem ok_wp {f C : Addr} {fd : FuncData} (F : Fun K "whole_product" "whole_product" sWp f fd) (TP : TxtP mg) (msum : mg "sum" = none) : FnOk P w K mg base CX0 1 f fd ["one", "other"] (spWp C) := by
  refine F.ok scWp (fun vs H Q E h => ?_) (fun cdv A outer s H vs Q E hr h => ?_)
  · obtain ⟨N, p, r, w, z, y, rfl, _⟩ := h
    rfl
  · obtain ⟨N, p, r, w, z, y, rfl, hp, hr', hw, g, k⟩ := h
    have hx := hp.ints
    have hy := hr'.ints
    refine ⟨_, pss_one (ps_ret (pe_callB (cr_sum rfl) (by rfl) msum (by decide +kernel) (pa_cons (pe_lc (own := [("mine", 2), ("its", 3)]) (g := gTup K 2 (gCons (gName 2) (gCons (gName 3) gNil))) (tt := tYes) rfl scWp.nd (pi_zip (by rfl) TP.zip (pa_cons (pv 0) (pa_cons (pv 1) pa_nil))) (blkOk_by (N := ["one", "other", "mine", "its"]) (sc := (defScope sWp)) (by decide +kernel)) (fun _ _ _ _ _ => (pg_tup rfl (pgs_cons (pg_name (i := 2) scWp.nd rfl (.inl rfl)) (pgs_cons (pg_name (i := 3) scWp.nd rfl (.inl rfl)) pgs_nil)))) (fun _ _ _ _ _ => pts_nil) (fun _ _ _ _ _ => (pe_op RQ.op_mulH (pv 2) (pv 3)))) pa_nil))), ?_⟩
    refine ⟨_, rfl, _, rfl, p, r, _, _, rfl, SqL.of hx, SqL.of hy, fun D nD => ?_⟩
    refine lc_it (walk_zip (K := K) (a := p) (b := r) (xs := iV w z) (ys := iV w y) (n := w) (by rw [iV_len, iV_len, Nat.min_self])) (fun i H' => H' D = some (.lst (iV i fun j => z j * y j)) ∧ Same H H') ⟨upd_same, Same.upd nD⟩ (fun i H' _ h => ⟨SqL.of (h.2 _ _ hx), SqL.of (h.2 _ _ hy)⟩) ?_ ?_
    · rintro i v H1 H2 hi ⟨hD, s1⟩ ⟨T, x, x', rfl, nT, rfl, h1, h2⟩
      obtain ⟨_, rfl⟩ := iV_lt h1
      obtain ⟨_, rfl⟩ := iV_lt h2
      have tD : T ≠ D := (ne_of_none hD nT).symm
      refine ⟨T, _, rfl, SqT.of upd_same, rfl, _, _, rfl, _, _, rfl, rfl, ?_⟩
      refine ⟨rfl, _, rfl, _, rfl, _, _, rfl, rfl, g i hi, _, by rw [upd_ne tD.symm]; exact hD, ?_, ?_, fun c o hc => ?_⟩
      · rw [iV_len]
        exact small1000 (by omega)
      · rw [upd_same, iV_succ]
      · have hc1 := s1 _ _ hc
        rw [upd_ne (ne_of_none hc nD), upd_ne (ne_of_none hc1 nT)]
        exact hc1
    · rintro H1 ⟨hD, s1⟩
      refine ⟨D, (List.range w).map fun j => z j * y j, rfl, SqL.of (by rw [List.map_map]; exact hD), ?_⟩
      rw [wsum_list]
      exact k H1 s1
theorem ok_wr {f C : Addr} {fd : FuncData} (F : Fun K "whole_row_times" "whole_row_times" sWr f fd) (T : TxtL mg) (TP : TxtP mg) : FnOk P w K mg base CX0 1 f fd ["row", "square"] (spWr C) := by
  refine F.ok scWr (fun vs H Q E h => ?_) (fun cdv A outer s H vs Q E hr h => ?_)
  · obtain ⟨N, p, r, n, z, y, rfl, _⟩ := h
    rfl
  · obtain ⟨N, p, r, n, z, y, rfl, hp, hr', al, hn, gz, gy, k⟩ := h
    have hx := hp.ints
    obtain ⟨ys, hy, ly, ey⟩ := At.lstR hr'
    refine ⟨_, pss_cons (ps_set (i := 2) scWr.nd rfl (.inl rfl) (pe_op op_rep (pe_lst (pa_cons pe_int pa_nil)) (pe_callB call_len_seq (by rfl) T.len PySem.boot_len (pa_cons (pv 1) pa_nil))))
      (pss_cons (ps_for PassesOwn.never rfl (pi_zip (by rfl) TP.zip (pa_cons (pv 0) (pa_cons (pv 1) pa_nil))) (pg_tup rfl (pgs_cons (pg_name (i := 3) scWr.nd rfl (.inr rfl)) (pgs_cons (pg_name (i := 4) scWr.nd rfl (.inl rfl)) pgs_nil)))
        (pss_one (ps_if (pt_truth (pv 3) (by intro _; rfl))
          (pss_one (ps_setLc (i := 2) (own := [("done", 5), ("more", 6)]) (g := gTup K 2 (gCons (gName 5) (gCons (gName 6) gNil))) (tt := tYes) rfl scWr.nd rfl rfl (sw_true rfl rfl rfl (by decide +kernel)) (pi_zip (by rfl) TP.zip (pa_cons (pv 2) (pa_cons (pv 4) pa_nil))) (blkOk_by (N := ["row", "square", "sums", "number", "line", "done", "more"]) (sc := (defScope sWr)) (by decide +kernel)) (fun _ _ _ _ _ => (pg_tup rfl (pgs_cons (pg_name (i := 5) scWr.nd rfl (.inl rfl)) (pgs_cons (pg_name (i := 6) scWr.nd rfl (.inl rfl)) pgs_nil)))) (fun _ _ _ _ _ => pts_nil) (fun _ _ _ _ _ => (pe_op op_add (pv 5) (pe_op RQ.op_mulH (pv 3) (pv 6))))))
          pss_nil)))
      (pss_one (ps_ret (pv 2)))), ?_⟩
    refine ⟨(by show 1 ≤ sizeLine; decide), fun L nL => ?_⟩
    have sL : Same H (upd H L (.lst [.int 0])) := Same.upd nL
    refine ⟨_, rfl, r, ys, rfl, .inl (SqL.of (sL _ _ hy)), L, _, _, rfl, rfl, upd_same, by omega, by rw [ly]; omega, ?_, fun D nD => ?_⟩
    · rw [ly]
      show 1 * _ ≤ sizeLine
      rw [Nat.one_mul, Int.toNat_natCast]
      exact Nat.le_of_lt (small1000 hn)
    have e0 : (List.replicate (((ys.length : Nat) : Int).toNat) [V.int 0]).flatten = iV n fun _ => 0 := by
      rw [Int.toNat_natCast, ly]
      exact zeros_iV
    have sD := sL.trans (Same.upd (o := .lst ((List.replicate (((ys.length : Nat) : Int).toNat) [V.int 0]).flatten)) nD)
    refine ⟨_, rfl, _, rfl, p, r, _, _, rfl, SqL.of (sD _ _ hx), SqL.of (sD _ _ hy), for_it (walk_zip (K := K) (a := p) (b := r) (xs := iV n z) (ys := ys) (n := n) (by rw [iV_len, ly, Nat.min_self])) (fun i σ H' => ∃ q o3 o4, σ = [some (.ref p), some (.ref r), some (.ref q), o3, o4, none, none] ∧ H' q = some (.lst (iV n fun j => wsum z (fun i => y i j) i)) ∧ H q = none ∧ Same H H')
      ⟨D, none, none, rfl, by rw [upd_same, e0]; rfl, sL.free nD, sD⟩ (fun i σ H' _ h => by obtain ⟨_, _, _, _, _, _, s⟩ := h; exact ⟨SqL.of (s _ _ hx), SqL.of (s _ _ hy)⟩) ?_ ?_⟩
    · rintro i v σ H1 H2 hi ⟨q, o3, o4, rfl, hq, nq, s1⟩ ⟨T', x, x', rfl, nT, rfl, h1, h2⟩
      obtain ⟨_, rfl⟩ := iV_lt h1
      obtain ⟨x2, hx2, hd⟩ := ey i hi
      have h2 : ys[i]? = some x' := h2
      rw [hx2] at h2
      obtain rfl := Option.some.inj h2
      obtain ⟨ln, rfl⟩ := hd.lstV
      have hln := hd.ints
      have sT : Same H1 (upd H1 T' (.tup [.int (z i), .ref ln])) := Same.upd nT
      refine ⟨T', _, rfl, SqT.of upd_same, rfl, _, _, rfl, _, _, rfl, rfl, ?_⟩
      refine ⟨_, rfl, _, rfl, ?_⟩
      by_cases z0 : z i = 0
      · rw [show ((z i != 0) : Bool) = false by rw [z0]; rfl]
        refine iteF ⟨q, _, _, rfl, ?_, nq, s1.trans sT⟩
        rw [sT _ _ hq]
        congr 3
        funext j
        show _ = wsum z (fun i => y i j) i + z i * y i j
        rw [z0, Int.zero_mul, Int.add_zero]
      · rw [show ((z i != 0) : Bool) = true from bne_iff_ne.mpr z0]
        refine iteT ?_
        refine ⟨_, rfl, _, rfl, q, ln, _, _, rfl, SqL.of (sT _ _ hq), SqL.of (sT _ _ (s1 _ _ hln)), fun G nG => ?_⟩
        have hq2 := sT _ _ hq
        have hl2 := sT _ _ (s1 _ _ hln)
        generalize upd H1 T' (.tup [.int (z i), .ref ln]) = H2 at *
        refine lc_it (walk_zip (K := K) (a := q) (b := ln) (xs := iV n fun j => wsum z (fun i => y i j) i) (ys := iV n (y i)) (n := n) (by rw [iV_len, iV_len, Nat.min_self])) (fun j H' => H' G = some (.lst (iV j fun j => wsum z (fun i => y i j) (i + 1))) ∧ Same H2 H') ⟨upd_same, Same.upd nG⟩ (fun j H' _ h => ⟨SqL.of (h.2 _ _ hq2), SqL.of (h.2 _ _ hl2)⟩) ?_ ?_
        · rintro j v H3 H4 hj ⟨hG, s3⟩ ⟨T2, x, x', rfl, nT2, rfl, h1, h2⟩
          obtain ⟨_, rfl⟩ := iV_lt h1
          obtain ⟨_, rfl⟩ := iV_lt h2
          have tD : T2 ≠ G := (ne_of_none hG nT2).symm
          refine ⟨T2, _, rfl, SqT.of upd_same, rfl, _, _, rfl, _, _, rfl, rfl, ?_⟩
          refine ⟨rfl, _, rfl, _, rfl, _, rfl, _, _, rfl, rfl, ⟨gz i hi, gy i hi j hj⟩, _, _, rfl, rfl, _, by rw [upd_ne tD.symm]; exact hG, ?_, ?_, fun c o hc => ?_⟩
          · rw [iV_len]
            exact small1000 (by omega)
          · rw [upd_same, iV_succ]
            rfl
          · have hc1 := s3 _ _ hc
            rw [upd_ne (ne_of_none hc nG), upd_ne (ne_of_none hc1 nT2)]
            exact hc1
        · rintro H3 ⟨hG, s3⟩
          exact ⟨G, _, _, rfl, hG, (s1.trans sT).free nG, (s1.trans sT).trans s3⟩
    · rintro σ H1 ⟨q, o3, o4, rfl, hq, nq, s1⟩
      exact ⟨_, rfl, k q H1 s1 nq (at_ints hq (al.fresh nq))⟩
end
end RX

set_option Elab.async false
set_option linter.all false
set_option maxRecDepth 100000
/-! letters: "abcd"[i] and "abcd".index(x) -/
namespace LX
open PySem PySem.Spec PyProof.Rows L2
abbrev abcd : Str := "abcd"
def ltr (i : Nat) : Str := ⟨#[97 + i]⟩
theorem abcd_at {i : Nat} (h : i < 4) : atI abcd.cps.toList (i : Int) = some (97 + i) := by
  have all : ∀ i : Nat, i < 4 → atI abcd.cps.toList (i : Int) = some (97 + i) := by decide +kernel
  exact all i h
theorem abcd_len : abcd.length ≤ sizeLine := by
  have e : abcd.length = 4 := by decide +kernel
  rw [e]
  decide
theorem found {i : Nat} (h : i < 4) : ∃ rest, Builtin.Str.occurrences abcd (ltr i) 0 abcd.length 1 = i :: rest := by
  have all : ∀ i, i < 4 → Builtin.Str.occurrences abcd (ltr i) 0 abcd.length 1 = [i] := by decide +kernel
  exact ⟨[], all i h⟩
def rLetter : V → List V → Hp → VK → Prop := fun x xs H Q => ∃ i : Nat, i < 4 ∧ x = .str abcd ∧ xs = [.str (ltr i)] ∧ Q (.int (i : Nat)) H
theorem mt_letter {X : Cx} : MtR X "str.index" rLetter := by
  intro pins s σ H x xs v us Q I rx rel told
  obtain ⟨i, lt, rfl, rfl, q⟩ := told
  obtain ⟨t, rfl⟩ := rx
  obtain ⟨_, rfl, u, rfl⟩ := vals1 rel
  obtain ⟨rest, at_i⟩ := found lt
  exact PySem.SC.index at_i ⟨.int (i : Nat), H, I.tok _, ⟨_, rfl⟩, q⟩
theorem ltr_inj {i j : Nat} : ltr i = ltr j ↔ i = j := by
  unfold ltr
  constructor
  · intro h
    injection h with h
    have := congrArg (fun (a : Array Nat) => a[0]?) h
    simp at this
    exact this
  · intro h
    rw [h]
end LX
namespace LX
open PySem
/-- the word with the letters w (0 for a) -/
def wd (w : List Nat) : Str := ⟨(w.map (97 + ·)).toArray⟩
theorem wd_len {w : List Nat} : (wd w).length = w.length := by
  unfold wd Str.length
  simp
theorem wd_cps {w : List Nat} : (wd w).cps.toList = w.map (97 + ·) := rfl
theorem wd_at {w : List Nat} {i : Nat} : (wd w).cps[i]? = w[i]?.map (97 + ·) := by
  unfold wd
  simp
theorem wd_append {u v : List Nat} : wd u ++ wd v = wd (u ++ v) := by
  show Str.append (wd u) (wd v) = _
  unfold Str.append wd
  simp
theorem wd_nil : wd [] = Str.empty := rfl
theorem wd_one {i : Nat} : wd [i] = ltr i := rfl
theorem wd_inj : ∀ {u v : List Nat}, wd u = wd v → u = v := by
  intro u v h
  have e : u.map (97 + ·) = v.map (97 + ·) := congrArg (fun s : Str => s.cps.toList) h
  have go : ∀ (u v : List Nat), u.map (97 + ·) = v.map (97 + ·) → u = v := by
    intro u
    induction u with
    | nil =>
      intro v h
      cases v with
      | nil => rfl
      | cons y v => cases h
    | cons x u ih =>
      intro v h
      cases v with
      | nil => cases h
      | cons y v =>
        rw [List.map_cons, List.map_cons] at h
        injection h with h1 h2
        rw [ih v h2, Nat.add_left_cancel h1]
  exact go u v e
theorem strjoin_wd : ∀ {w : List Nat}, Str.join Str.empty (w.map ltr) = wd w
  | [] => rfl
  | [x] => rfl
  | x :: y :: w => by
    show ltr x ++ Str.empty ++ Str.join Str.empty ((y :: w).map ltr) = _
    rw [strjoin_wd (w := y :: w)]
    show Str.append (Str.append (ltr x) Str.empty) (wd (y :: w)) = wd (x :: y :: w)
    unfold Str.append wd ltr Str.empty
    simp
theorem join_wd {w : List Nat} : Txt.join (Str.ofString "") (w.map ltr) = wd w := by
  have e : Str.ofString "" = Str.empty := by decide +kernel
  show Builtin.Str.glued (Str.ofString "") (w.map ltr) = _
  rw [StrLaws.glued_eq_join, e]
  exact strjoin_wd
end LX

set_option Elab.async false
set_option linter.all false
set_option maxRecDepth 100000
/-! the first k letters: the place of a letter -/
namespace LX
open PySem PySem.Spec PyProof.Rows L2
/-- the string of the first k letters -/
def abK (k : Nat) : Str := ⟨((List.range k).map (97 + ·)).toArray⟩
theorem foundK {k i : Nat} (hk : k ≤ 4) (h : i < k) : ∃ rest, Builtin.Str.occurrences (abK k) (ltr i) 0 (abK k).length 1 = i :: rest := by
  have all : ∀ k, k ≤ 4 → ∀ i, i < k → Builtin.Str.occurrences (abK k) (ltr i) 0 (abK k).length 1 = [i] := by decide +kernel
  exact ⟨[], all k hk i h⟩
def rLetterK : V → List V → Hp → VK → Prop := fun x xs H Q => ∃ k i : Nat, k ≤ 4 ∧ i < k ∧ x = .str (abK k) ∧ xs = [.str (ltr i)] ∧ Q (.int (i : Nat)) H
theorem mt_letterK {X : Cx} : MtR X "str.index" rLetterK := by
  intro pins s σ H x xs v us Q I rx rel told
  obtain ⟨k, i, hk, lt, rfl, rfl, q⟩ := told
  obtain ⟨t, rfl⟩ := rx
  obtain ⟨_, rfl, u, rfl⟩ := vals1 rel
  obtain ⟨rest, at_i⟩ := foundK hk lt
  exact PySem.SC.index at_i ⟨.int (i : Nat), H, I.tok _, ⟨_, rfl⟩, q⟩
theorem ltr_wd {i : Nat} : wd [i] = ltr i := rfl
theorem mem_abK {k i : Nat} (h : i < k) : 97 + i ∈ (abK k).cps.toList := by
  unfold abK
  simp
  exact h
theorem abK_len {k : Nat} : (abK k).length = k := by
  unfold abK Str.length
  simp
end LX

set_option Elab.async false
set_option linter.all false
set_option maxRecDepth 100000
set_option maxHeartbeats 1000000
/-! for x in reversed(a string) -/
namespace RS
open PySem PySem.Spec PyProof.Rows L2
theorem str_norev : typeLookup (.type "str") "__reversed__" = pure none := by
  rw [typeLookup_type, builtinLookup_eq_fast]
  kernel_rfl
theorem str_get : typeLookup (.type "str") "__getitem__" = pure (some (.builtin "str.__getitem__")) := by
  rw [typeLookup_type, builtinLookup_eq_fast]
  kernel_rfl
/-- reversed(x) stands at a, the next place is i -/
def Back (h : Heap) (a : Addr) (x : Str) (t : Tok) (i : Int) : Prop := ∃ o, h.get? a = some o ∧ o.cls = .type "reversed" ∧ o.data = .fields #[.str x t, rawInt i]
theorem Back.at {h h' : Heap} {a : Addr} {x : Str} {t : Tok} {i : Int} (b : Back h a x t i) (e : ∀ o, h.get? a = some o → h'.get? a = some o) : Back h' a x t i :=
  let ⟨o, ho, r⟩ := b
  ⟨o, e _ ho, r⟩
def backO (x : Str) (t : Tok) (i : Int) : Obj := { cls := .type "reversed", data := .fields #[.str x t, rawInt i] }
section
variable {x : Str} {t : Tok} {s : Shared} {prog : Program} {w : World} {A : Around} {E : Value → Shared → Prop}
theorem Back.ty {a : Addr} {i : Int} (b : Back s.heap a x t i) : s.TypeIs (.ref a) "reversed" :=
  let ⟨o, ho, hc, _⟩ := b
  ⟨o, ho, hc⟩
theorem new_back {R : Value → Shared → Prop} (short : x.length ≤ sizeLine) (then_ : R (.ref s.heap.objs.size) { s with heap := s.heap.push (backO x t ((x.length : Int) - 1)), toks := s.toks + 1 + 1 }) :
    codeAny (model prog w) A (.call (.builtin "reversed.__new__") ⟨[.type "reversed", .str x t], []⟩) (wants R E) s := by
  have hT : s.TypeIs (.str x t) "str" := typeIs_str s x t
  have l63 := line63
  refine codeAny_of_tree ?_
  show wpAny _ A.in1 (checkBuiltinCall "reversed.__new__" ⟨[.type "reversed", .str x t], []⟩ >>= fun _ => again (.builtin "reversed.__new__" ⟨[.type "reversed", .str x t], []⟩)) _ _ s
  refine wpAny_bind (wpAny_of_eq (F.newCall_reversed_1 _) (wpAny_pure ?here))
  case here =>
    refine And.intro (plainId_quiet F.plain_reversed_new _) (codeAny_builtin F.entry_reversed_new ?_)
    have plain := F.plain_reversed_new
    rw [Around.under_plainId plain _]
    unfold Builtin.«reversed.__new__»
    refine wpAny_bind (wpAny_of_eq (newClass_reversed _) ?a1)
    case a1 =>
    try dsimp only
    refine wpAny_bind (wpAny_of_eq (a := ()) (by first | rfl | kernel_rfl) ?a2)
    case a2 =>
    try dsimp only
    refine wpAny_bind (wpAny_of_eq (a := ()) (by first | rfl | kernel_rfl) ?a3)
    case a3 =>
    try dsimp only
    refine wpAny_bind (wpAny_specialOf hT str_norev ?_)
    try dsimp only
    refine wpAny_bind ?_
    wp_delta
    refine wpAny_bind (wpAny_isInstance (U := "dict") hT PySem.F.sub_str_dict ?_)
    try dsimp only
    try rw [if_neg Bool.false_ne_true]
    try dsimp only
    refine wpAny_bind (wpAny_specialOf hT str_get ?_)
    try dsimp only
    try rw [if_pos (by decide +kernel)]
    refine wpAny_pure ?_
    try dsimp only
    try rw [if_neg (by decide)]
    try dsimp only
    refine wpAny_bind (PySem.P.len_str (by omega) ?_)
    refine wpAny_bind (wpAny_of_eq (a := some ((x.length : Nat) : Int)) rfl ?_)
    try dsimp only
    refine wpAny_bind ?_
    show wpAny _ _ (newObj (.type "reversed") (.fields #[.str x t, rawInt ((x.length : Int) - 1)])) _ _ _
    exact wpAny_newObj_type (wpAny_pure then_)
theorem call_back {Q : Value → Shared → Prop} (short : x.length ≤ sizeLine) (then_ : Q (.ref s.heap.objs.size) { s with heap := s.heap.push (backO x t ((x.length : Int) - 1)), toks := s.toks + 1 + 1 }) :
    wpAny (model prog w) A (call (.type "reversed") [.str x t]) Q E s := by
  refine callType_codes (Q₁ := fun o s1 => s1.TypeIs o "reversed" ∧ Q o s1) RT.called_rt (F.typeCall_reversed_1 _) F.entry_object_init (new_back short ⟨⟨_, Heap.get?_push_size _ rfl, rfl⟩, then_⟩) ?_
  rintro o s1 ⟨h1, h2⟩
  exact ⟨h1, F.args_object_init_2 o _, object_init_meets RT.called_rt.init.lookup RT.called_rt.made (by decide) prog w A.in1 _ s1 ⟨h1, rfl, h2⟩⟩
theorem back_item {it : Addr} {i c : Nat} {Q : Option Value → Shared → Prop} (hit : Back s.heap it x t (i : Int)) (short : x.length ≤ sizeLine) (hi : i < x.length) (hx : x.cps[i]? = some c)
    (then_ : ∀ h', Back h' it x t ((i : Int) - 1) → Heap.SameBut it s.heap h' → Q (some (.str ⟨#[c]⟩ (s.toks + 1))) { s with heap := h', toks := s.toks + 1 + 1 }) : wpAny (model prog w) A (pyNext (.ref it)) Q E s := by
  obtain ⟨o, ho, hc, hd⟩ := id hit
  have hT : s.TypeIs (.str x t) "str" := typeIs_str s x t
  have l63 := line63
  unfold pyNext
  refine wpAny_bind (wpAny_attempt (wpAny_callSpecial?_slot (name := Str.ofString "__next__") hit.ty RT.slot_rt_next (wpAny_call_entry RT.slot_rt_next hit.ty RT.entry_rt_next ?_ (RT.args_rt_next _))))
  unfold Builtin.«reversed.__next__»
  refine wpAny_bind (wpAny_of_eq (a := (Value.ref it, [])) rfl ?b1)
  case b1 =>
  try dsimp only
  refine wpAny_bind (wpAny_field ho hd (x := Value.str x t) rfl ?_)
  try dsimp only
  refine wpAny_bind (wpAny_field ho hd (x := rawInt (i : Int)) rfl ?b2)
  case b2 =>
  show wpAny _ A.in1 (if (i : Int) < 0 then _ else _) _ _ s
  rw [if_neg (by omega)]
  try dsimp only
  refine wpAny_bind (wpAny_specialOf hT str_get ?_)
  try dsimp only
  try rw [if_neg (by decide)]
  try dsimp only
  refine wpAny_bind (wpAny_mkInt ?_)
  refine wpAny_bind (wpAny_attempt ?_)
  have at_i : seqIndex? (i : Int) x.length = some i := seqIndex_of (by omega) (by omega)
  refine PySem.P.getItem_str (s := { s with toks := s.toks + 1 }) (c := c) (by
    rw [decide_eq_false (by omega), decide_eq_false (by omega)]
    rfl) (by rw [at_i]; exact hx) ?_
  try dsimp only
  refine wpAny_bind (wpAny_field (s := { s with toks := s.toks + 1 + 1 }) ho hd (x := rawInt (i : Int)) rfl ?b3)
  case b3 =>
  try dsimp only
  refine wpAny_bind (wpAny_setField (s := { s with toks := s.toks + 1 + 1 }) ho hd (by simp) ?b4)
  case b4 =>
  have put : Back (s.heap.update it (Obj.mapFields (·.setIfInBounds 1 (rawInt ((i : Int) - 1))))) it x t ((i : Int) - 1) :=
    ⟨_, Heap.get?_update_self _ ho (Obj.isFreed_of_fields (Obj.data_mapFields hd _)), (Obj.cls_mapFields ..).trans hc, by rw [Obj.data_mapFields hd]; simp⟩
  first
    | exact wpAny_pure ⟨_, rfl, wpAny_pure (then_ _ put (Heap.SameBut.update ..))⟩
    | exact wpAny_bind (wpAny_pure (wpAny_pure ⟨_, rfl, wpAny_pure (then_ _ put (Heap.SameBut.update ..))⟩))
theorem back_end {it : Addr} {Q : Option Value → Shared → Prop} (calm : A.handled = none) (hit : Back s.heap it x t (-1)) (then_ : ∀ h', Heap.ExtBut it s.heap h' → Q none { s with heap := h' }) : wpAny (model prog w) A (pyNext (.ref it)) Q E s := by
  obtain ⟨o, ho, hc, hd⟩ := id hit
  unfold pyNext
  refine wpAny_bind (wpAny_attempt (wpAny_callSpecial?_slot (name := Str.ofString "__next__") hit.ty RT.slot_rt_next (wpAny_call_entry RT.slot_rt_next hit.ty RT.entry_rt_next ?_ (RT.args_rt_next _))))
  unfold Builtin.«reversed.__next__»
  refine wpAny_bind (wpAny_of_eq (a := (Value.ref it, [])) rfl ?b1)
  case b1 =>
  try dsimp only
  refine wpAny_bind (wpAny_field ho hd (x := Value.str x t) rfl ?_)
  try dsimp only
  refine wpAny_bind (wpAny_field ho hd (x := rawInt (-1)) rfl ?b2)
  case b2 =>
  show wpAny _ A.in1 (if (-1 : Int) < 0 then _ else _) _ _ s
  rw [if_pos (by decide)]
  try dsimp only
  refine wpAny_bind (wpAny_rule ?_)
  refine wpAny_bind ?_
  wp_delta
  refine wpAny_bind (wpAny_setField ho hd (by simp) ?b8)
  case b8 =>
  have once := Heap.get?_update_self (Obj.mapFields (·.setIfInBounds 1 (rawInt (-1)))) ho (Obj.isFreed_of_fields (Obj.data_mapFields hd _))
  refine wpAny_setField (s := { s with heap := s.heap.update it (Obj.mapFields (·.setIfInBounds 1 (rawInt (-1)))) }) once (Obj.data_mapFields hd _) (by simp) ?b5
  case b5 =>
  try dsimp only
  first
    | (show wpAny _ _ (newExc (.type "StopIteration") [] >>= _) _ _ _)
    | (refine wpAny_bind ?_
       show wpAny _ _ (newExc (.type "StopIteration") [] >>= _) _ _ _)
    | (refine wpAny_bind ?_
       wp_delta
       show wpAny _ _ (newExc (.type "StopIteration") [] >>= _) _ _ _)
  refine wpAny_bind ?_
  simp only [newExc, newTuple]
  refine wpAny_bind (wpAny_newObj_type ?b9 (by size_fits))
  case b9 =>
  refine wpAny_bind (m := firstArgMember _ _) (wpAny_of_eq (a := Value.none) (by first | rfl | (simp only [firstArgMember]; rfl)) ?b6)
  case b6 =>
  refine wpAny_newObj_type ?_ (by size_fits)
  simp only [raiseNew]
  refine wpAny_bind (wpAny_handled ?_)
  first | rw [show A.in1.handled = none from calm] | rw [calm]
  refine wpAny_bind (wpAny_pure (wpAny_throw ?b10))
  case b10 =>
  refine wpAny_bind (wpAny_isInstance (T := "StopIteration") (b := true) ⟨_, Heap.get?_push_size _ rfl, rfl⟩ isSubtype_stop ?b7)
  case b7 =>
  refine wpAny_pure (then_ _ ?_)
  have kept : Heap.ExtBut it s.heap ((s.heap.update it (Obj.mapFields (·.setIfInBounds 1 (rawInt (-1))))).update it (Obj.mapFields (·.setIfInBounds 0 Value.none))) :=
    fun b ob hb e => (Heap.get?_update_other _ _ (Ne.symm hb)).trans ((Heap.get?_update_other _ _ (Ne.symm hb)).trans e)
  exact (kept.push _).push _
theorem iter_back {it : Addr} {i : Int} {Q : Value → Shared → Prop} (hit : Back s.heap it x t i) (then_ : Q (.ref it) s) : wpAny (model prog w) A (pyIter (.ref it)) Q E s := by
  refine wpAny_pyIter_slot hit.ty RT.slot_rt_iter (wpAny_call_entry RT.slot_rt_iter hit.ty RT.entry_rt_iter ?_ (RT.args_rt_iter _))
  show wpAny _ _ (ret (.ref it)) _ _ s
  exact wpAny_pure ⟨_, rfl, "reversed", _, hit.ty, RT.slot_rt_next.lookup, then_⟩
end
/-- the letters of x from its end -/
def Itb (x : Str) : It := ⟨fun i _ => i < x.length, fun i H v H' => H' = H ∧ ∃ c, x.cps[x.length - 1 - i]? = some c ∧ v = .str ⟨#[c]⟩, fun i _ => x.length ≤ i⟩
theorem turn_back {P : Program} {w : World} {K : PySem.W.Frag} {tg : Expr} (it : Addr) (x : Str) (t : Tok) (short : x.length ≤ sizeLine) : Turn P w K tg (Itb x) [it] it (fun i h => i ≤ x.length ∧ Back h it x t ((x.length : Int) - 1 - (i : Nat))) where
  mem := by simp
  obj := fun i h st b hb => by
    obtain rfl : b = it := by simpa using hb
    obtain ⟨_, o, e, c, d⟩ := st
    refine ⟨o, e, fun v z => ?_⟩
    rw [d] at z
    cases z
  keep := fun i h h' st kept => ⟨st.1, st.2.at fun o e => kept it (by simp) o e⟩
  item := by
    intro Y hP hw hK hc i pins s σ H E I hf st hg
    subst hP hw hK
    have lt : i < x.length := hg
    obtain ⟨f0, f1, -, f3, f4, f5⟩ := hf it (by simp)
    obtain ⟨_, hit⟩ := st
    have back : (x.length : Int) - 1 - ((i : Nat) : Int) = ((x.length - 1 - i : Nat) : Int) := by omega
    rw [back] at hit
    have there : x.length - 1 - i < x.cps.size := by show x.length - 1 - i < x.length; omega
    refine back_item hit short (by omega) (Array.getElem?_eq_getElem there) fun h' st' sb => ?_
    have next : ((x.length - 1 - i : Nat) : Int) - 1 = (x.length : Int) - 1 - ((i + 1 : Nat) : Int) := by omega
    rw [next] at st'
    have I1 : Inv Y pins σ H { s with heap := h', toks := s.toks + 1 + 1 } := I.turned (t' := s.toks + 1 + 1) (fun b o hb e => (sb.2 b hb).trans e) f0 f1 f3 f4 f5
    obtain ⟨o, e, c, d⟩ := id st'
    exact ⟨_, rfl, go_of (s := { s with heap := h', toks := s.toks + 1 + 1 }) e c d (by decide) ⟨.str ⟨#[x.cps[x.length - 1 - i]]⟩, H, I1, ⟨_, rfl⟩, ⟨rfl, _, Array.getElem?_eq_getElem there, rfl⟩, ⟨lt, st'⟩, fun b hb => (hf b hb).1⟩⟩
  done := by
    intro Y hP hw hK hc i pins s σ H E I hf st hg
    subst hP hw hK
    obtain ⟨f0, f1, -, f3, f4, f5⟩ := hf it (by simp)
    obtain ⟨le, hit⟩ := st
    have ge : x.length ≤ i := hg
    have stop : (x.length : Int) - 1 - ((i : Nat) : Int) = -1 := by omega
    rw [stop] at hit
    exact back_end (I.ok.hd hc) hit fun h' eb => ⟨rfl, I.turned (t' := s.toks) (fun b o hb e => eb b o hb e) f0 f1 f3 f4 f5⟩
  self := fun A i s Q E st h => iter_back st.2 h
def iBack (ta : TA) : TI := fun σ H R => ta σ H fun vs H1 => ∃ x : Str, vs = [.str x] ∧ x.length ≤ sizeLine ∧ R (Itb x) H1
theorem pi_back {X : Cx} {tg e : Expr} {ta : TA} {p pos : Pos} (hg : Gl X "reversed") (hm : X.mg "reversed" = none) (ha : PA X [e] ta) (hs : starEach [e] X.env = [(false, eval e X.env)] := by rfl) : PI X tg (.Call (.Name "reversed" p) [e] [] pos) (iBack ta) := by
  refine ⟨fun pins s σ H R I told => ?_⟩
  refine Call_ (ld_blt I hg hm PyProof.Rows.boot_reversed (PyProof.Rows.callWith_type1 (thn (ha.run pos pins s σ H _ I told) ?_) hs rfl))
  rintro us s1 ⟨vs, H1, I1, rel, x, rfl, short, q⟩
  obtain ⟨u, rfl, t, rfl⟩ := vals1 rel
  have e0 : (x.length : Int) - 1 = (x.length : Int) - 1 - ((0 : Nat) : Int) := by omega
  refine call_back short (iter_back (x := x) (t := t) (i := (x.length : Int) - 1) ⟨_, Heap.get?_push_size _ rfl, rfl, rfl⟩ ?_)
  refine pi_one (tk := s1.toks + 1 + 1) I1 _ (turn_back _ x t short) ⟨Nat.zero_le _, ?_⟩ q
  rw [← e0]
  have laid := Heap.get?_push_size (h := s1.heap) (o := backO x t ((x.length : Int) - 1)) rfl
  exact ⟨_, laid, rfl, rfl⟩
end RS

set_option Elab.async false
set_option linter.all false
set_option maxRecDepth 100000
/-! range(n) as a value, walked later; either of two walks; calls of instances -/
namespace XC
open PySem PySem.Spec PyProof.Rows L2
section
variable {X : Cx} {tg : Expr}
theorem cr_range1 : CallR X (.type "range") (fun vs H Q => ∃ j, vs = [V.int j] ∧ ∀ p, H p = none → Q (.ref p) (upd H p (.rng 0 j))) := by
  intro pins s σ H vs us Q I r h
  obtain ⟨j, rfl, q⟩ := h
  obtain ⟨u1, rfl, t, rfl⟩ := vals1 r
  refine call_range_1 ⟨.ref s.heap.objs.size, upd H s.heap.objs.size (.rng 0 j), I.laid (t' := s.toks + 1 + 1) (fun b o e => Heap.get?_push_of_some _ e) (Nat.le_refl _) ?_, rfl, q _ (I.hok.fresh (Nat.le_refl _))⟩
  exact ⟨_, _, _, Heap.get?_push_size _ rfl⟩
def iRngO (te : TE) : TI := fun σ H R => te σ H fun v H1 => ∃ (a : Addr) (lo hi : Int), v = .ref a ∧ H1 a = some (.rng lo hi) ∧ -(2 ^ 62) ≤ lo ∧ lo < 2 ^ 62 ∧ -(2 ^ 62) ≤ hi ∧ hi < 2 ^ 62 ∧ R (Itr lo (hi - lo).toNat) H1
theorem pi_rng {e : Expr} {te : TE} (he : PE X e te) : PI X tg e (iRngO te) := by
  refine ⟨fun pins s σ H R I h => ?_⟩
  refine thn (he.run pins s σ H _ I h) fun v s1 ⟨x, H1, I1, r1, a, lo, hi, ex, ha, h1, h2, h3, h4, q⟩ => ?_
  subst ex
  obtain rfl : v = Value.ref a := r1
  obtain ⟨t1, t2, t3, ho⟩ := I1.hok a _ ha
  refine wpAny_pyIter_range ho (small_one h1 h2 h3 h4) ?_
  refine ⟨s1.heap.objs.size, [s1.heap.objs.size], _, _, H1, rfl, I1.kept (t' := s1.toks) fun b o e => Heap.get?_push_of_some _ e, turn_range _ lo (hi - lo).toNat, ?_, fun b hb => ?_, q⟩
  · have e1 : lo + ((0 : Nat) : Int) * 1 = lo := by simp
    have e2 : (((hi - lo).toNat : Nat) : Int) - ((0 : Nat) : Int) = Builtin.Range.rangeSize lo hi 1 := by rw [rangeSize_one]; split <;> omega
    show IsRangeIter _ _ (lo + ((0 : Nat) : Int) * 1) ((((hi - lo).toNat : Nat) : Int) - ((0 : Nat) : Int)) 1
    rw [e1, e2]
    exact Heap.get?_push_size _ rfl
  · have e : b = s1.heap.objs.size := by simpa using hb
    subst e
    exact I1.fpOk (Nat.le_refl _) (I1.hok.fresh (Nat.le_refl _))
/-- either walk -/
theorem pi_or {e : Expr} {w1 w2 : TI} (h1 : PI X tg e w1) (h2 : PI X tg e w2) : PI X tg e (fun σ H R => w1 σ H R ∨ w2 σ H R) :=
  ⟨fun pins s σ H R I h => h.elim (h1.run pins s σ H R I) (h2.run pins s σ H R I)⟩
end
end XC

set_option Elab.async false
set_option maxRecDepth 100000
namespace RX
open PySem L2 LX
/-! ### letters of words -/
abbrev sAlpha : Stmt := topS 24
theorem scAl : FnScope ["letters"] ["letters"] (defScope sAlpha) := ⟨rfl, rfl, rfl, by decide +kernel, rfl, by decide +kernel, by decide +kernel⟩
abbrev sCw : Stmt := topS 25
theorem scCw : FnScope ["letters", "word", "known", "sign"] ["letters", "word"] (defScope sCw) := ⟨rfl, rfl, rfl, by decide +kernel, rfl, by decide +kernel, by decide +kernel⟩
/-- letters below k -/
def Ltk (k : Nat) (u : List Nat) : Prop := ∀ x ∈ u, x < k
def spAl : Sp := fun vs H Q _ => ∃ k : Nat, vs = [.int (k : Int)] ∧ 1 ≤ k ∧ k ≤ 4 ∧ Q (.str (abK k)) H
def spCw : Sp := fun vs H Q _ => ∃ (k : Nat) (u : List Nat), vs = [.int (k : Int), .str (wd u)] ∧ 1 ≤ k ∧ k ≤ 4 ∧ Ltk k u ∧ Q .non H
def rLenS (K : PySem.W.Frag) : List V → Hp → VK → Prop := fun xs H Q => ∃ p ys, xs = [.ref p] ∧ (SqL K H p ys ∨ SqT K H p ys) ∧ Q (.int ys.length) H
theorem call_len_seqK {X : Cx} : CallR X (.builtin "len") (rLenS X.K) := call_len_seq
section
variable {P : Program} {w : World} {K : PySem.W.Frag} {mg : Str → Option Value} {base : Heap}
theorem ok_al {f : Addr} {fd : FuncData} {t : Tok} (F : Fun K "alphabet" "alphabet" sAlpha f fd) (mL : mg "LETTERS" = some (.str "abcd" t)) : FnOk P w K mg base CX0 1 f fd ["letters"] spAl := by
  refine F.ok scAl (fun vs H Q E h => ?_) (fun cdv A outer s H vs Q E hr h => ?_)
  · obtain ⟨k, rfl, _⟩ := h
    rfl
  · obtain ⟨k, rfl, k1, k4, kk⟩ := h
    refine ⟨_, pss_one (ps_ret (pe_slice sl_str (pe_glob (v := .str "abcd") (by rfl) mL ⟨_, rfl⟩) po_none (po_some (pv 0)))), ?_⟩
    refine ⟨_, rfl, _, rfl, _, rfl, abcd_len, ?_⟩
    have all : ∀ k : Nat, k ≤ 4 → cutS abcd none (some (k : Int)) = abK k := by decide +kernel
    rw [show cutS (PySem.Str.ofString "abcd") none (some (k : Int)) = abK k from all k k4]
    exact kk
theorem ok_cw {f fA : Addr} {fd dA : FuncData} (F : Fun K "check_word" "check_word" sCw f fd) (cAl : CalN P w K mg base "alphabet" 1 ["letters"] spAl fA dA) : FnOk P w K mg base CX0 2 f fd ["letters", "word"] spCw := by
  refine F.ok scCw (fun vs H Q E h => ?_) (fun cdv A outer s H vs Q E hr h => ?_)
  · obtain ⟨k, u, rfl, _⟩ := h
    rfl
  · obtain ⟨k, u, rfl, k1, k4, hu, kk⟩ := h
    have hr1 : Room 1 _ := hr
    refine ⟨_, pss_cons (ps_set (i := 2) scCw.nd rfl (.inl rfl) (pe_call cAl.G hr1 rfl cAl.m cAl.kp cAl.b .nil pass0 (pa_cons (pv 0) pa_nil)))
      (pss_one (ps_for PassesOwn.never rfl (pi_str (pv 1)) (pg_name (i := 3) scCw.nd rfl (.inl rfl))
        (pss_one (ps_if (pt_cmpR op_notIn_sign (pv 3) (pv 2) (by rfl))
          (pss_one ps_never)
          pss_nil)))), ?_⟩
    refine ⟨_, rfl, k, rfl, k1, k4, ?_⟩
    refine ⟨_, rfl, _, rfl, for_it (walk_str (z := wd u)) (fun i σ H' => ∃ y, σ = [some (.int (k : Int)), some (.str (wd u)), some (.str (abK k)), y] ∧ H' = H) ⟨none, rfl, rfl⟩ (fun _ _ _ _ _ => trivial) ?_ ?_⟩
    · rintro i x σ H1 H2 hi ⟨y, rfl, rfl⟩ ⟨rfl, c, hc, rfl⟩
      rw [wd_at] at hc
      cases e : u[i]? with
      | none => rw [e] at hc; cases hc
      | some x =>
        rw [e] at hc
        obtain rfl := Option.some.inj hc
        have lt := hu x (List.mem_of_getElem? e)
        refine ⟨_, rfl, _, rfl, 97 + x, abK k, rfl, rfl, _, rfl, ?_⟩
        rw [decide_eq_true (mem_abK lt)]
        exact iteF ⟨_, rfl, rfl⟩
    · rintro σ H1 ⟨y, rfl, rfl⟩
      exact kk
end
end RX

set_option Elab.async false
set_option maxRecDepth 100000
set_option exponentiation.threshold 100000
namespace RX
open PySem L2 VA VM
open RQ (Hg Bt)
/-! ### rows that are led through steps -/
abbrev sShf : Stmt := topS 21
theorem scShf : FnScope ["row", "found", "integer"] ["row"] (defScope sShf) := ⟨rfl, rfl, rfl, by decide +kernel, rfl, by decide +kernel, by decide +kernel⟩
abbrev sShd : Stmt := topS 20
theorem scShd : FnScope ["tops", "bottom", "shared", "top"] ["tops", "bottom"] (defScope sShd) := ⟨rfl, rfl, rfl, by decide +kernel, rfl, by decide +kernel, by decide +kernel⟩
abbrev sRth : Stmt := topS 19
theorem scRth : FnScope ["tops", "bottom", "steps", "lead", "longest", "lines", "below"] ["tops", "bottom", "steps", "lead"] (defScope sRth) := ⟨rfl, rfl, rfl, by decide +kernel, rfl, by decide +kernel, by decide +kernel⟩
abbrev sWc : Stmt := topS 18
theorem scWc : FnScope ["column", "square", "line"] ["column", "square"] (defScope sWc) := ⟨rfl, rfl, rfl, by decide +kernel, rfl, by decide +kernel, by decide +kernel⟩
theorem Abv_div {n b t : Nat} {q : Nat → Rat} {z z' : Nat → Int} {B B' g : Int} (h : Abv n q z B b t) (g0 : g ≠ 0) (eB : B' * g = B) (ez : ∀ j, j < n → z' j * g = z j) : Abv n q z' B' b t := by
  have le : ∀ {x y : Int}, x * g = y → x.natAbs ≤ y.natAbs := fun {x y} e => by
    rw [← e, Int.natAbs_mul]
    exact Nat.le_mul_of_pos_right _ (Int.natAbs_pos.mpr g0)
  refine ⟨fun z => h.b0 (by rw [← eB, z, Int.zero_mul]), h.bb.le (le eB), fun j hj => ?_, fun j hj => (h.bt j hj).le (le (ez j hj))⟩
  have e := h.eq j hj
  have gr : (g : Rat) ≠ 0 := fun z => g0 (by exact_mod_cast z)
  rw [← ez j hj, ← eB, Rat.intCast_mul, Rat.intCast_mul] at e
  grind
def zc (B : Int) (z : Nat → Int) : Nat → Int
  | 0 => B
  | j + 1 => z j
theorem iV_cons {B : Int} {z : Nat → Int} {n : Nat} : iV (n + 1) (zc B z) = .int B :: iV n z := by
  unfold iV
  rw [List.range_succ_eq_map, List.map_cons, List.map_map]
  rfl
def stR (n : Nat) (z : Nat → Int) (y : Nat → Nat → Int) : Nat → Int := fun j => wsum z (fun i => y i j) n
def stC (n : Nat) (z : Nat → Int) (y : Nat → Nat → Int) : Nat → Int := fun i => wsum (y i) z n
def spLead (C : Addr) (st : Nat → (Nat → Int) → (Nat → Nat → Int) → Nat → Int) : Sp := fun vs H Q _ => ∃ (N : Addr → Prop) (p r : Addr) (n : Nat) (z : Nat → Int) (y : Nat → Nat → Int), vs = [.ref p, .ref r] ∧ At C N H (.ref p) (intL n z) ∧ At C N H (.ref r) (.lst (rng n fun i => intL n (y i))) ∧ Alc N H ∧ n ≤ 1000 ∧ (∀ i, i < n → Hg (z i)) ∧ (∀ i, i < n → ∀ j, j < n → Hg (y i j)) ∧
  ∀ (q : Addr) (H' : Hp), Same H H' → H q = none → At C N H' (.ref q) (intL n (st n z y)) → Q (.ref q) H'
def spShf (C : Addr) : Sp := fun vs H Q _ => ∃ (N : Addr → Prop) (p : Addr) (w : Nat) (z : Nat → Int), vs = [.ref p] ∧ At C N H (.ref p) (intL w z) ∧ Q (.int ((gf z w : Nat) : Int)) H
def spShd (C : Addr) : Sp := fun vs H Q _ => ∃ (N : Addr → Prop) (p : Addr) (w : Nat) (z : Nat → Int) (B : Int), vs = [.ref p, .int B] ∧ At C N H (.ref p) (intL w z) ∧ Alc N H ∧ w ≤ 1000 ∧ B ≠ 0 ∧
  ∀ (v : V) (z' : Nat → Int) (B' g : Int) (H' : Hp), Same H H' → At C N H' v (.tup [intL w z', .int B']) → g ≠ 0 → B' * g = B → (∀ j, j < w → z' j * g = z j) → Q v H'
def spRth (C : Addr) (st : Nat → (Nat → Int) → (Nat → Nat → Int) → Nat → Int) (fL : Addr) : Sp := fun vs H Q _ => ∃ (N : Addr → Prop) (p q : Addr) (n L b t b1 t1 : Nat) (z : Nat → Int) (B : Int) (U : Nat → Nat → Nat → Rat) (r : Nat → Nat → Rat), vs = [.ref p, .int B, .ref q, .ref fL] ∧ At C N H (.ref p) (intL n z) ∧ At C N H (.ref q) (.lst (rng L fun i => absT n n (U i))) ∧ Alc N H ∧ n ≤ 1000 ∧
  b + L * b1 ≤ 60000000 ∧ t + L * (t1 + n) ≤ 60000000 ∧ b1 ≤ 60000000 ∧ t1 ≤ 60000000 ∧ Abv n (r 0) z B b t ∧ (∀ i, i < L → SzT n n (U i) b1 t1) ∧
  (∀ i, i < L → ∀ (z : Nat → Int) (B : Int) (b t : Nat), Abv n (r i) z B b t → Abv n (r (i + 1)) (st n z fun a => topz (U i a) ((cbt (U i) n n : Nat) : Int)) (B * ((cbt (U i) n n : Nat) : Int)) (b + b1) (t + t1 + n)) ∧
  ∀ (v : V) (z' : Nat → Int) (B' : Int) (H' : Hp), Same H H' → At C N H' v (.tup [intL n z', .int B']) → Abv n (r L) z' B' (b + L * b1) (t + L * (t1 + n)) → Q v H'
section
variable {P : Program} {w : World} {K : PySem.W.Frag} {mg : Str → Option Value} {base : Heap}
theorem ok_shf {f C : Addr} {fd : FuncData} (F : Fun K "shared_factor" "shared_factor" sShf f fd) (TR : TxtR K mg C) : FnOk P w K mg base CX0 1 f fd ["row"] (spShf C) := by
  refine F.ok scShf (fun vs H Q E h => ?_) (fun cdv A outer s H vs Q E hr h => ?_)
  · obtain ⟨N, p, w, z, rfl, _⟩ := h
    rfl
  · obtain ⟨N, p, w, z, rfl, hp, k⟩ := h
    have hx := hp.ints
    refine ⟨_, pss_cons (ps_set (i := 1) scShf.nd rfl (.inl rfl) pe_int)
      (pss_cons (ps_for PassesOwn.never rfl (pi_list (pv 0)) (pg_name (i := 2) scShf.nd rfl (.inl rfl))
        (pss_one (ps_set (i := 1) scShf.nd rfl (.inl rfl) (pe_callBfun cr_gcd (by rfl) TR.gcd (pa_cons (pv 1) (pa_cons (pv 2) pa_nil))))))
      (pss_one (ps_ret (pv 1)))), ?_⟩
    refine ⟨_, rfl, p, rfl, ⟨_, SqL.of hx⟩, for_it (walk_list (K := K) (a := p) (xs := iV w z)) (fun i σ H' => ∃ y, σ = [some (.ref p), some (.int ((gf z i : Nat) : Int)), y] ∧ H' = H) ⟨none, rfl, rfl⟩ (fun i σ H' _ h => by obtain ⟨_, _, rfl⟩ := h; exact SqL.of hx) ?_ ?_⟩
    · rintro i x σ H1 H2 hi ⟨y, rfl, rfl⟩ ⟨rfl, hx2⟩
      obtain ⟨hi', rfl⟩ := iV_lt hx2
      refine ⟨_, rfl, _, rfl, _, _, rfl, some (.int (z i)), ?_, rfl⟩
      show [some (V.ref p), some (V.int ((Nat.gcd (((gf z i : Nat) : Int)).natAbs (z i).natAbs : Nat) : Int)), some (V.int (z i))] = _
      rw [Int.natAbs_natCast]
      rfl
    · rintro σ H1 ⟨y, rfl, rfl⟩
      rw [iV_len]
      exact ⟨_, rfl, k⟩
theorem ok_shd (B : PL.Big P base) {f fS C : Addr} {fd dS : FuncData} (F : Fun K "shortened" "shortened" sShd f fd) (cShf : CalN P w K mg base "shared_factor" 1 ["row"] (spShf C) fS dS) : FnOk P w K mg base CX0 33 f fd ["tops", "bottom"] (spShd C) := by
  refine F.ok scShd (fun vs H Q E h => ?_) (fun cdv A outer s H vs Q E hr32 h => ?_)
  · obtain ⟨N, p, w, z, B, rfl, _⟩ := h
    rfl
  · obtain ⟨N, p, w, z, B0, rfl, hp, al, hw, b0, k⟩ := h
    have hr1 : Room 1 _ := hr32.mono (by decide)
    have hx := hp.ints
    refine ⟨_, pss_cons (ps_set (i := 2) scShd.nd rfl (.inr rfl) (pe_call cShf.G hr1 rfl cShf.m cShf.kp cShf.b .nil pass0 (pa_cons (pe_op op_cat (pe_lst (pa_cons (pv 1) pa_nil)) (pv 0)) pa_nil)))
      (pss_one (ps_ret (pe_ifExp (pt_cmpR op_gt (pv 2) pe_int (nomark _)) (pe_tup (pa_cons (pe_lc (own := [("top", 3)]) (g := gName 3) (tt := tYes) rfl scShd.nd (pi_list (pv 0)) (blkOk_by (N := ["tops", "bottom", "shared", "top"]) (sc := (defScope sShd)) (by decide +kernel)) (fun _ _ _ _ _ => (pg_name (i := 3) scShd.nd rfl (.inl rfl))) (fun _ _ _ _ _ => pts_nil) (fun _ _ _ _ _ => (pe_op (PL.op_fdivP B hr32 ⟨_, _, rfl, rfl, rfl, rfl, rfl⟩) (pv 3) (pv 2)))) (pa_cons (pe_op (PL.op_fdivP B hr32 ⟨_, _, rfl, rfl, rfl, rfl, rfl⟩) (pv 1) (pv 2)) pa_nil))) (pe_tup (pa_cons (pv 0) (pa_cons (pv 1) pa_nil)))))), ?_⟩
    refine ⟨_, rfl, (by show 1 ≤ sizeLine; decide), fun l nl => ⟨_, rfl, l, p, _, _, rfl, rfl, upd_same, Same.upd nl _ _ hx, by show 1 + (iV w z).length ≤ sizeLine; rw [iV_len]; exact Nat.le_trans (show 1 + w ≤ 1001 by omega) (by show 1001 ≤ sizeLine; decide), fun r nr => ?_⟩⟩
    have s1 : Same H (upd (upd H l (.lst [.int B0])) r (.lst ([.int B0] ++ iV w z))) := (Same.upd nl).trans (Same.upd nr)
    have hr : (upd (upd H l (.lst [.int B0])) r (.lst ([.int B0] ++ iV w z))) r = some (.lst (iV (w + 1) (zc B0 z))) := by rw [upd_same, iV_cons]; rfl
    have nrN : ¬ N r := al.fresh ((Same.upd nl).free nr)
    generalize upd (upd H l (.lst [.int B0])) r (.lst ([.int B0] ++ iV w z)) = H1 at *
    refine ⟨N, r, w + 1, zc B0 z, rfl, at_ints hr nrN, ?_⟩
    have g0 : 0 < gf (zc B0 z) (w + 1) := gf_pos (j := 0) (by omega) b0
    have dv : ∀ j, j < w + 1 → ((gf (zc B0 z) (w + 1) : Nat) : Int) ∣ zc B0 z j := fun j hj => gf_dvd hj
    generalize gf (zc B0 z) (w + 1) = g at *
    have gne : (g : Int) ≠ 0 := by omega
    have hp1 := hp.same s1
    have hx1 := hp1.ints
    have al1 := al.keep (Same.keep (N := N) s1)
    refine ⟨_, rfl, _, _, rfl, rfl, _, rfl, ?_⟩
    refine ite2 (fun z1 => ?_) (fun z1 => ?_)
    · refine ⟨_, rfl, p, rfl, ⟨_, SqL.of hx1⟩, fun D nD => ?_⟩
      refine lc_it (walk_list (K := K) (a := p) (xs := iV w z)) (fun i H' => H' D = some (.lst (iV i fun j => (z j).fdiv (g : Int))) ∧ Same H1 H') ⟨upd_same, Same.upd nD⟩ (fun i H' _ h => SqL.of (h.2 _ _ hx1)) ?_ ?_
      · rintro i x H2 H3 hi ⟨hD, s2⟩ ⟨rfl, hx2⟩
        obtain ⟨hi', rfl⟩ := iV_lt hx2
        refine ⟨rfl, _, rfl, _, rfl, _, _, rfl, rfl, gne, _, hD, ?_, ?_, fun c o hc => ?_⟩
        · rw [iV_len]
          exact small1000 (by omega)
        · rw [upd_same, iV_succ]
        · rw [upd_ne (ne_of_none hc nD)]
          exact s2 _ _ hc
      · rintro H2 ⟨hD, s2⟩
        rw [iV_len] at hD
        refine ⟨_, rfl, _, rfl, _, _, rfl, rfl, gne, (by show 2 ≤ sizeLine; decide), fun q nq => ?_⟩
        refine k (.ref q) (fun j => (z j).fdiv (g : Int)) (B0.fdiv (g : Int)) (g : Int) _ ((s1.trans s2).trans (Same.upd nq)) ?_ gne (RT.fdiv_of_dvd gne (dv 0 (by omega))) fun j hj => RT.fdiv_of_dvd gne (dv (j + 1) (by omega))
        exact At.newT (al1.keep (Same.keep (N := N) s2)) nq rfl (itemsC (at_ints hD (al1.fresh nD)) (items1 (.int _)))
    · refine ⟨_, rfl, _, rfl, (by show 2 ≤ sizeLine; decide), fun q nq => ?_⟩
      refine k (.ref q) z B0 1 _ (s1.trans (Same.upd nq)) ?_ (by decide) (Int.mul_one _) fun j hj => Int.mul_one _
      exact At.newT al1 nq rfl (itemsC hp1 (items1 (.int _)))
theorem ok_wc {f fW C : Addr} {fd dW : FuncData} (F : Fun K "whole_column_times" "whole_column_times" sWc f fd) (cWp : CalN P w K mg base "whole_product" 1 ["one", "other"] (spWp C) fW dW) : FnOk P w K mg base CX0 2 f fd ["column", "square"] (spLead C stC) := by
  refine F.ok scWc (fun vs H Q E h => ?_) (fun cdv A outer s H vs Q E hr h => ?_)
  · obtain ⟨N, p, r, n, z, y, rfl, _⟩ := h
    rfl
  · obtain ⟨N, p, r, n, z, y, rfl, hp, hr', al, n1, gz, gy, k⟩ := h
    have hr1 : Room 1 _ := hr
    obtain ⟨ys, hys, ly, ey⟩ := At.lstR hr'
    refine ⟨_, pss_one (ps_ret (pe_lc (own := [("line", 2)]) (g := gName 2) (tt := tYes) rfl scWc.nd (pi_list (pv 1)) (blkOk_by (N := ["column", "square", "line"]) (sc := (defScope sWc)) (by decide +kernel)) (fun _ _ _ _ _ => (pg_name (i := 2) scWc.nd rfl (.inl rfl))) (fun _ _ _ _ _ => pts_nil) (fun _ _ _ _ _ => (pe_call cWp.G hr1 rfl cWp.m cWp.kp cWp.b .nil pass0 (pa_cons (pv 2) (pa_cons (pv 0) pa_nil)))))), ?_⟩
    refine ⟨_, rfl, r, rfl, ⟨_, SqL.of hys⟩, fun D nD => ?_⟩
    have nND := al.fresh nD
    refine lc_it (walk_list (K := K) (a := r) (xs := ys)) (fun j G => Bld C Emp N H D (rng j fun i => .int (stC n z y i)) G) (bld0 nD) (fun i G _ b => SqL.of (b.k.same _ _ hys)) ?_ ?_
    · rintro j x G1 G2 hj bb ⟨rfl, hy⟩
      rw [ly] at hj
      obtain ⟨y', hy', hd'⟩ := ey j hj
      rw [hy'] at hy
      obtain rfl := Option.some.inj hy
      obtain ⟨qy, rfl⟩ := hd'.lstV
      refine ⟨rfl, _, rfl, _, rfl, N, qy, p, n, _, z, rfl, hd'.keep (Same.keep bb.k.same), hp.keep (Same.keep bb.k.same), n1, fun l hl => ⟨gy j hj l hl, gz l hl⟩, fun G3 s3 => ?_⟩
      obtain ⟨acc, h1, h2, h3⟩ := bb.step nD (Same.keep s3) (fun _ z => z.elim) id (At.int _)
      refine ⟨acc, h1, by rw [h2, rng_len]; exact small1000 (by omega), ?_⟩
      rw [rng_succ]
      exact h3
    · rintro G1 bb
      rw [ly] at bb
      exact k D G1 bb.k.same nD (bb.done nND)
theorem bits_hg {B : Int} {b : Nat} (h : Bt b B) (l : b ≤ 60000000) : Builtin.Int.intBits B ≤ 60000000 := by
  unfold Builtin.Int.intBits
  split
  · omega
  · rename_i z
    have z : B ≠ 0 := fun e => z (beq_iff_eq.mpr e)
    have : B.natAbs.log2 < b := (Nat.log2_lt (by omega)).mpr h
    omega
theorem hg_small {x : Nat} (h : x ≤ 60000000) : Hg ((x : Nat) : Int) := ⟨26, by decide, by
  show ((x : Nat) : Int).natAbs < 2 ^ 26
  rw [Int.natAbs_natCast]
  have : (2 : Nat) ^ 26 = 67108864 := by decide
  omega⟩
theorem ok_rth {f fS fL C : Addr} {fd dS dL : FuncData} {x : Str} {kL : Nat} {st : Nat → (Nat → Int) → (Nat → Nat → Int) → Nat → Int} {y : Str} (F : Fun K "row_through" "row_through" sRth f fd) (T : TxtL mg) {tS : Tok} (mSH : mg "SHORT" = some (.int 2000 tS)) (lk : kL ≤ 33)
    (cShd : CalN P w K mg base "shortened" 33 ["tops", "bottom"] (spShd C) fS dS) (cLd : CalN P w K mg base x kL [y, "square"] (spLead C st) fL dL) :
    FnOk P w K mg base CX0 34 f fd ["tops", "bottom", "steps", "lead"] (spRth C st fL) := by
  refine F.ok scRth (fun vs H Q E h => ?_) (fun cdv A outer s H vs Q E hr33 h => ?_)
  · obtain ⟨N, p, q, n, L, b, t, b1, t1, z, B, U, r, rfl, _⟩ := h
    rfl
  · obtain ⟨N, p, q, n, L, b, t, b1, t1, z, B, U, r, rfl, hp, hq, al, n1, hb, ht, hb1, ht1, av, sz, stp, k⟩ := h
    have hrL : Room kL _ := hr33.mono lk
    obtain ⟨xs, hxs, lx, ex⟩ := At.lstR hq
    refine ⟨_, pss_cons (ps_set (i := 4) scRth.nd rfl (.inl rfl) (pe_glob (v := .int 2000) (by rfl) mSH ⟨_, rfl⟩))
      (pss_cons (ps_for PassesOwn.never rfl (pi_list (pv 2)) (pg_tup rfl (pgs_cons (pg_name (i := 5) scRth.nd rfl (.inl rfl)) (pgs_cons (pg_name (i := 6) scRth.nd rfl (.inl rfl)) pgs_nil)))
        (pss_cons (ps_par (i := 0) (j := 1) (by rfl) scRth.nd rfl rfl (by decide) rfl rfl (pa_cons (ItX.pe_callV (i := 3) (FnOk.raw cLd.G cLd.b .nil) hrL cLd.kp pass0 rfl (.inl rfl) (pa_cons (pv 0) (pa_cons (pv 5) pa_nil))) (pa_cons (pe_op RQ.op_mulH (pv 1) (pv 6)) pa_nil)) (by rfl))
        (pss_one (ps_if (pt_cmpR op_gt (pe_bits (pv 1)) (pv 4) (nomark _))
          (pss_cons (ps_asg (pe_call cShd.G hr33 rfl cShd.m cShd.kp cShd.b .nil pass0 (pa_cons (pv 0) (pa_cons (pv 1) pa_nil))) (pg_tup rfl (pgs_cons (pg_name (i := 0) scRth.nd rfl (.inl rfl)) (pgs_cons (pg_name (i := 1) scRth.nd rfl (.inl rfl)) pgs_nil))))
          (pss_one (ps_set (i := 4) scRth.nd rfl (.inl rfl) (pe_callB (call_max2 rfl) (by rfl) T.max (by decide +kernel) (pa_cons (pe_glob (v := .int 2000) (by rfl) mSH ⟨_, rfl⟩) (pa_cons (pe_op RQ.op_mulH pe_int (pe_bits (pv 1))) pa_nil))))))
          pss_nil))))
      (pss_one (ps_ret (pe_tup (pa_cons (pv 0) (pa_cons (pv 1) pa_nil)))))), ?_⟩
    refine ⟨_, rfl, q, rfl, ⟨_, SqL.of hxs⟩, for_it (walk_list (K := K) (a := q) (xs := xs)) (fun i σ H' => ∃ p' z' B' lo o5 o6, σ = [some (.ref p'), some (.int B'), some (.ref q), some (.ref fL), some (.int lo), o5, o6] ∧ Same H H' ∧ At C N H' (.ref p') (intL n z') ∧ Abv n (r i) z' B' (b + i * b1) (t + i * (t1 + n)))
      ⟨p, z, B, 2000, none, none, rfl, Same.refl H, hp, by rw [Nat.zero_mul, Nat.zero_mul]; exact av⟩ (fun i σ H' _ h => by obtain ⟨_, _, _, _, _, _, _, s, _⟩ := h; exact SqL.of (s _ _ hxs)) ?_ ?_⟩
    · rintro i v σ H1 H2 hi ⟨p', z', B', lo, o5, o6, rfl, s1, hp', av'⟩ ⟨rfl, hv⟩
      rw [lx] at hi
      obtain ⟨v', hv', hd⟩ := ex i hi
      rw [hv'] at hv
      obtain rfl := Option.some.inj hv
      have hd := hd.same s1
      obtain ⟨rv, rfl⟩ := hd.tupV
      obtain ⟨ys, hys, ly, ey⟩ := hd.tupE
      match ys, ly with
      | [w0, w1], _ =>
      have h0 := ey 0 w0 _ rfl rfl
      have h1 := (ey 1 w1 _ rfl rfl).intV
      subst h1
      obtain ⟨sq, rfl⟩ := h0.lstV
      refine ⟨rv, _, rfl, SqT.of hys, rfl, _, _, rfl, _, _, rfl, rfl, ?_⟩
      have iL : (i + 1) * b1 ≤ L * b1 := Nat.mul_le_mul_right _ hi
      have iT : (i + 1) * (t1 + n) ≤ L * (t1 + n) := Nat.mul_le_mul_right _ hi
      have eb : (i + 1) * b1 = i * b1 + b1 := Nat.succ_mul i b1
      have et : (i + 1) * (t1 + n) = i * (t1 + n) + (t1 + n) := Nat.succ_mul i _
      have szi := sz i hi
      have al2 := al.keep (Same.keep (N := N) s1)
      refine ⟨rfl, _, rfl, _, rfl, N, p', sq, n, z', fun a => topz (U i a) ((cbt (U i) n n : Nat) : Int), rfl, hp', h0, al2, n1, fun j hj => Hg.bt (av'.bt j hj) (by omega), fun a ha j hj => Hg.bt (szi.t a ha j hj) ht1, fun q' H3 s3 nq' hq' => ?_⟩
      refine ⟨_, rfl, _, rfl, _, _, rfl, rfl, ⟨Hg.bt av'.bb (by omega), Hg.bt szi.b hb1⟩, ?_⟩
      have st2 := (stp i hi z' B' _ _ av').up (b' := b + (i + 1) * b1) (t' := t + (i + 1) * (t1 + n)) (by omega) (by omega)
      refine ⟨_, _, rfl, ?_⟩
      refine ⟨_, rfl, _, rfl, _, rfl, _, _, rfl, rfl, _, rfl, ?_⟩
      refine ite2 (fun z1 => ?_) (fun z1 => ?_)
      · refine ⟨_, rfl, _, rfl, N, q', n, _, _, rfl, hq', al2.keep (Same.keep (N := N) s3), n1, st2.b0, fun v z2 B2 g H4 s4 hv g0 eB ez => ?_⟩
        have av2 := Abv_div st2 g0 eB ez
        obtain ⟨ru, rfl⟩ := hv.tupV
        obtain ⟨us, hus, lu, eu⟩ := hv.tupE
        match us, lu with
        | [u0, u1], _ =>
        have k0 := eu 0 u0 _ rfl rfl
        have k1 := (eu 1 u1 _ rfl rfl).intV
        subst k1
        obtain ⟨pz, rfl⟩ := k0.lstV
        refine ⟨ru, _, rfl, SqT.of hus, rfl, _, _, rfl, _, _, rfl, rfl, ?_⟩
        have hbit := bits_hg av2.bb (by omega)
        refine ⟨_, rfl, _, rfl, ?_⟩
        refine ⟨_, _, rfl, rfl, ⟨⟨2, by decide, show (2 : Int).natAbs < 2 ^ 2 by decide⟩, hg_small hbit⟩, _, _, rfl, ?_⟩
        exact ⟨pz, z2, B2, _, _, _, rfl, (s1.trans s3).trans s4, k0, av2⟩
      · exact ⟨q', _, _, _, _, _, rfl, s1.trans s3, hq', st2⟩
    · rintro σ H2 ⟨p', z', B', lo, o5, o6, rfl, s1, hp', av'⟩
      rw [lx] at av'
      refine ⟨_, rfl, _, rfl, (by show 2 ≤ sizeLine; decide), fun u nu => ?_⟩
      exact k (.ref u) z' B' _ (s1.trans (Same.upd nu)) (At.newT (al.keep (Same.keep (N := N) s1)) nu rfl (itemsC hp' (items1 (.int _)))) av'
end
end RX

set_option Elab.async false
set_option maxRecDepth 100000
namespace RX
open PySem L2 LX VA
open RQ (Hg Bt)
/-! ### machines -/
abbrev sMi : Stmt := inClass (topS 27) 0
theorem scMi : FnScope ["self", "letters", "start", "steps", "end", "step", "row"] ["self", "letters", "start", "steps", "end"] (defScope sMi) := ⟨rfl, rfl, rfl, by decide +kernel, rfl, by decide +kernel, by decide +kernel⟩
abbrev outMi0 : Scope := { kind := .function, names := [(".0", .local), ("step", .local), ("tuple", .globalImplicit)], isGenerator := false, isCoroutine := false }
abbrev sSi : Stmt := inClass (topS 27) 1
theorem scSi : FnScope ["self"] ["self"] (defScope sSi) := ⟨rfl, rfl, rfl, by decide +kernel, rfl, by decide +kernel, by decide +kernel⟩
abbrev sFit : Stmt := inClass (topS 27) 8
theorem scFit : FnScope ["self", "size", "step", "row"] ["self"] (defScope sFit) := ⟨rfl, rfl, rfl, by decide +kernel, rfl, by decide +kernel, by decide +kernel⟩
abbrev outFit0 : Scope := { kind := .function, names := [(".0", .local), ("step", .local), ("len", .globalImplicit), ("all", .globalImplicit), ("size", .cell)], isGenerator := false, isCoroutine := false }
abbrev sSta : Stmt := inClass (topS 27) 10
theorem scSta : FnScope ["self", "letter", "at"] ["self", "letter"] (defScope sSta) := ⟨rfl, rfl, rfl, by decide +kernel, rfl, by decide +kernel, by decide +kernel⟩
abbrev sRwa : Stmt := inClass (topS 27) 9
theorem scRwa : FnScope ["self", "word", "tops", "bottom", "steps", "letter"] ["self", "word"] (defScope sRwa) := ⟨rfl, rfl, rfl, by decide +kernel, rfl, by decide +kernel, by decide +kernel⟩
abbrev sNum : Stmt := inClass (topS 27) 2
theorem scNum : FnScope ["self", "word", "tops", "bottom", "ends", "below"] ["self", "word"] (defScope sNum) := ⟨rfl, rfl, rfl, by decide +kernel, rfl, by decide +kernel, by decide +kernel⟩
abbrev sCall : Stmt := inClass (topS 27) 3
theorem scCall : FnScope ["self", "word"] ["self", "word"] (defScope sCall) := ⟨rfl, rfl, rfl, by decide +kernel, rfl, by decide +kernel, by decide +kernel⟩
structure Mc where
  k : Nat
  n : Nat
  s : Nat → Rat
  t : Nat → Nat → Nat → Rat
  e : Nat → Rat
def mf0 (k : Int) (vS vT vE : V) : List (Str × V) := putF "end" vE (putF "steps" vT (putF "start" vS (putF "letters" (.int k) [])))
def mf (k : Int) (vS vT vE : V) (ab : Addr) : List (Str × V) := putF "_above" (.ref ab) (mf0 k vS vT vE)
theorem lookup_mf0 (k : Int) (vS vT vE : V) (m : Str) : (mf0 k vS vT vE).lookup m = if m = "end" then some vE else if m = "steps" then some vT else if m = "start" then some vS else if m = "letters" then some (.int k) else none := by
  unfold mf0
  rw [lookup_putF, lookup_putF, lookup_putF, lookup_putF]
  rfl
theorem lookup_mf (k : Int) (vS vT vE : V) (ab : Addr) (m : Str) : (mf k vS vT vE ab).lookup m = if m = "_above" then some (.ref ab) else (mf0 k vS vT vE).lookup m := by
  unfold mf
  rw [lookup_putF]
section
variable {k : Int} {vS vT vE : V} {ab : Addr}
theorem mf0_l : (mf0 k vS vT vE).lookup ("letters" : Str) = some (.int k) := by
  rw [lookup_mf0, if_neg (by decide +kernel), if_neg (by decide +kernel), if_neg (by decide +kernel), if_pos rfl]
theorem mf0_s : (mf0 k vS vT vE).lookup ("start" : Str) = some vS := by
  rw [lookup_mf0, if_neg (by decide +kernel), if_neg (by decide +kernel), if_pos rfl]
theorem mf0_t : (mf0 k vS vT vE).lookup ("steps" : Str) = some vT := by
  rw [lookup_mf0, if_neg (by decide +kernel), if_pos rfl]
theorem mf0_e : (mf0 k vS vT vE).lookup ("end" : Str) = some vE := by
  rw [lookup_mf0, if_pos rfl]
theorem mf_l : (mf k vS vT vE ab).lookup ("letters" : Str) = some (.int k) := by
  rw [lookup_mf, if_neg (by decide +kernel)]; exact mf0_l
theorem mf_s : (mf k vS vT vE ab).lookup ("start" : Str) = some vS := by
  rw [lookup_mf, if_neg (by decide +kernel)]; exact mf0_s
theorem mf_t : (mf k vS vT vE ab).lookup ("steps" : Str) = some vT := by
  rw [lookup_mf, if_neg (by decide +kernel)]; exact mf0_t
theorem mf_e : (mf k vS vT vE ab).lookup ("end" : Str) = some vE := by
  rw [lookup_mf, if_neg (by decide +kernel)]; exact mf0_e
theorem mf_a : (mf k vS vT vE ab).lookup ("_above" : Str) = some (.ref ab) := by
  rw [lookup_mf, if_pos rfl]
theorem mf0_no {m : Str} (h1 : ¬ m = "end") (h2 : ¬ m = "steps") (h3 : ¬ m = "start") (h4 : ¬ m = "letters") : (mf0 k vS vT vE).lookup m = none := by
  rw [lookup_mf0, if_neg h1, if_neg h2, if_neg h3, if_neg h4]
theorem mf_no {m : Str} (h0 : ¬ m = "_above") (h1 : ¬ m = "end") (h2 : ¬ m = "steps") (h3 : ¬ m = "start") (h4 : ¬ m = "letters") : (mf k vS vT vE ab).lookup m = none := by
  rw [lookup_mf, if_neg h0]; exact mf0_no h1 h2 h3 h4
end
def stepsD (m : Mc) : Dat := .tup (rng m.k fun x => ratT m.n m.n (m.t x))
def absD (m : Mc) (x : Nat) : Dat := absT m.n m.n (m.t x)
/-- the machine m stands at p, what is worked out of its steps at ab -/
structure MachAt (C CM : Addr) (N : Addr → Prop) (H : Hp) (p ab : Addr) (m : Mc) : Prop where
  ex : ∃ dx vS vT vE, H p = some (.ins CM dx (mf (m.k : Int) vS vT vE ab)) ∧ At C N H vS (ratR m.n m.s) ∧ At C N H vT (stepsD m) ∧ At C N H vE (ratR m.n m.e)
  np : ¬ N p
  na : N ab
  av : ∃ xs, H ab = some (.lst xs) ∧ xs.length = m.k ∧ ∀ x, x < m.k → xs[x]? = some .non ∨ ∃ v, xs[x]? = some v ∧ v ≠ .non ∧ At C N H v (absD m x)
  k1 : 1 ≤ m.k
  k4 : m.k ≤ 4
  n1 : m.n ≤ 1000
theorem MachAt.keep {C CM : Addr} {N : Addr → Prop} {H H' : Hp} {p ab : Addr} {m : Mc} (h : MachAt C CM N H p ab m) (k : Keep N H H') (e : H' ab = H ab) : MachAt C CM N H' p ab m := by
  obtain ⟨⟨dx, vS, vT, vE, hp, hS, hT, hE⟩, np, na, ⟨xs, hx, l, av⟩, k1, k4, n1⟩ := h
  refine ⟨⟨dx, vS, vT, vE, k.k _ _ hp np, hS.keep k, hT.keep k, hE.keep k⟩, np, na, ⟨xs, by rw [e]; exact hx, l, fun x hx => ?_⟩, k1, k4, n1⟩
  rcases av x hx with h | ⟨v, h1, h2, h3⟩
  · exact .inl h
  · exact .inr ⟨v, h1, h2, h3.keep k⟩
theorem MachAt.same {C CM : Addr} {N : Addr → Prop} {H H' : Hp} {p ab : Addr} {m : Mc} (h : MachAt C CM N H p ab m) (s : Same H H') : MachAt C CM N H' p ab m := by
  obtain ⟨xs, hx, _, _⟩ := h.av
  exact h.keep (Same.keep s) (by rw [s _ _ hx, hx])
/-- another list changes -/
theorem MachAt.but {C CM : Addr} {N : Addr → Prop} {H H' : Hp} {p ab a : Addr} {m : Mc} (h : MachAt C CM N H p ab m) (b : But a H H') (ne : ab ≠ a) (n : N a) (t : H' a ≠ none) : MachAt C CM N H' p ab m := by
  obtain ⟨xs, hx, _, _⟩ := h.av
  exact h.keep (Keep.but b n t) (by rw [b _ _ hx ne, hx])
theorem MachAt.and {C CM : Addr} {N : Addr → Prop} {H : Hp} {p ab D : Addr} {m : Mc} (h : MachAt C CM N H p ab m) (f : H D = none) : MachAt C CM (And1 N D) H p ab m := by
  obtain ⟨⟨dx, vS, vT, vE, hp, hS, hT, hE⟩, np, na, ⟨xs, hx, l, av⟩, k1, k4, n1⟩ := h
  refine ⟨⟨dx, vS, vT, vE, hp, hS.and f, hT.and f, hE.and f⟩, fun z => ?_, .inl na, ⟨xs, hx, l, fun x hx => ?_⟩, k1, k4, n1⟩
  · rcases z with z | z
    · exact np z
    · rw [z, f] at hp; cases hp
  · rcases av x hx with h | ⟨v, h1, h2, h3⟩
    · exact .inl h
    · exact .inr ⟨v, h1, h2, h3.and f⟩
/-- sizes of its numbers -/
structure Msz (m : Mc) (b t : Nat) : Prop where
  sS : SzR m.n m.s b t
  sE : SzR m.n m.e b t
  sT : ∀ x, x < m.k → SzT m.n m.n (m.t x) b t
  b1 : b ≤ 12999
  t1 : t ≤ 100000
structure TxtM (K : PySem.W.Frag) (mg : Str → Option Value) (CM : Addr) : Prop where
  cl : Cls K CM
  nL : NoAttr K CM "letters"
  nS : NoAttr K CM "start"
  nT : NoAttr K CM "steps"
  nE : NoAttr K CM "end"
  nA : NoAttr K CM "_above"
  mgM : mg "Machine" = some (.ref CM)
/-- a method of a class -/
structure MetN (P : Program) (w : World) (K : PySem.W.Frag) (mg : Str → Option Value) (base : Heap) (C : Addr) (x : Str) (k : Nat) (ps : List Str) (sp : Sp) (f : Addr) (fd : FuncData) : Prop where
  G : FnOk P w K mg base CX0 k f fd ps sp
  m : Meth K C x f
  b : Binds K fd ps []
structure PropN (P : Program) (w : World) (K : PySem.W.Frag) (mg : Str → Option Value) (base : Heap) (C : Addr) (x : Str) (k : Nat) (sp : Sp) (q f : Addr) (fd : FuncData) : Prop where
  G : FnOk P w K mg base CX0 k f fd ["self"] sp
  p : PropOf K C x q f
  b : Binds K fd ["self"] []
def spSi (C CM : Addr) : Sp := fun vs H Q _ => ∃ (N : Addr → Prop) (p ab : Addr) (m : Mc), vs = [.ref p] ∧ MachAt C CM N H p ab m ∧ Q (.int (m.n : Int)) H
/-- before the last field is set -/
def spFit (C CM : Addr) : Sp := fun vs H Q _ => ∃ (N : Addr → Prop) (p dx : Addr) (vS vT vE : V) (m : Mc), vs = [.ref p] ∧ H p = some (.ins CM dx (mf0 (m.k : Int) vS vT vE)) ∧ At C N H vS (ratR m.n m.s) ∧ At C N H vT (stepsD m) ∧ At C N H vE (ratR m.n m.e) ∧ 1 ≤ m.k ∧ m.k ≤ 4 ∧ m.n ≤ 1000 ∧
  ∀ H', Same H H' → Q (.bl true) H'
def spSta (C CM : Addr) : Sp := fun vs H Q _ => ∃ (N : Addr → Prop) (p ab : Addr) (m : Mc) (x b t : Nat), vs = [.ref p, .str (ltr x)] ∧ MachAt C CM N H p ab m ∧ Alc N H ∧ x < m.k ∧ SzT m.n m.n (m.t x) b t ∧ b ≤ 12999 ∧ t ≤ 100000 ∧
  ∀ (v : V) (H' : Hp), But ab H H' → MachAt C CM N H' p ab m → At C N H' v (absD m x) → Q v H'
def rowN (m : Mc) (u : List Nat) : Nat → Rat := VN.row m.n m.t m.s u
def numN (m : Mc) (u : List Nat) : Rat := VM.dot (rowN m u) m.e m.n
def spRwa (C CM : Addr) : Sp := fun vs H Q _ => ∃ (N : Addr → Prop) (p ab : Addr) (m : Mc) (u : List Nat) (b t : Nat), vs = [.ref p, .str (wd u)] ∧ MachAt C CM N H p ab m ∧ Alc N H ∧ Ltk m.k u ∧ u.length ≤ 400 ∧ Msz m b t ∧
  ∀ (v : V) (z : Nat → Int) (B : Int) (H' : Hp), But ab H H' → MachAt C CM N H' p ab m → At C N H' v (.tup [intL m.n z, .int B]) → Abv m.n (rowN m u) z B (b * (u.length + 1)) (t + u.length * (t + m.n)) → Q v H'
def spNum (C CM : Addr) : Sp := fun vs H Q _ => ∃ (N : Addr → Prop) (p ab : Addr) (m : Mc) (u : List Nat) (b t : Nat), vs = [.ref p, .str (wd u)] ∧ MachAt C CM N H p ab m ∧ Alc N H ∧ Ltk m.k u ∧ u.length ≤ 400 ∧ Msz m b t ∧
  ∀ (r : Addr) (H' : Hp), But ab H H' → H r = none → MachAt C CM N H' p ab m → At C N H' (.ref r) (.rat (numN m u)) → Q (.ref r) H'
section
variable {P : Program} {w : World} {K : PySem.W.Frag} {mg : Str → Option Value} {base : Heap}
theorem ok_si {f C CM : Addr} {fd : FuncData} (F : Fun K "size" "Machine.size" sSi f fd) (T : TxtL mg) (TM : TxtM K mg CM) : FnOk P w K mg base CX0 1 f fd ["self"] (spSi C CM) := by
  refine F.ok scSi (fun vs H Q E h => ?_) (fun cdv A outer s H vs Q E hr h => ?_)
  · obtain ⟨N, p, ab, m, rfl, _⟩ := h
    rfl
  · obtain ⟨N, p, ab, m, rfl, hm, k⟩ := h
    obtain ⟨dx, vS, vT, vE, hp, hS, hT, hE⟩ := hm.ex
    obtain ⟨q, rfl⟩ := hS.tupV
    obtain ⟨xs, hx, l, _⟩ := At.tupR hS
    refine ⟨_, pss_one (ps_ret (pe_callB call_len_seq (by rfl) T.len PySem.boot_len (pa_cons (pe_fld (pv 0) rfl) pa_nil))), ?_⟩
    refine ⟨_, rfl, p, CM, dx, _, _, rfl, hp, TM.cl, TM.nS, mf_s, q, xs, rfl, .inr (SqT.of hx), ?_⟩
    rw [l]
    exact k
theorem ok_sta {f fA fT C CM : Addr} {fd dA dT : FuncData} (F : Fun K "_step_above" "Machine._step_above" sSta f fd) (TM : TxtM K mg CM) (cAl : CalN P w K mg base "alphabet" 1 ["letters"] spAl fA dA) (cTb : CalN P w K mg base "table_above" 34 ["table"] (spTb C) fT dT) :
    FnOk P w K mg base CX0 35 f fd ["self", "letter"] (spSta C CM) := by
  refine F.ok scSta (fun vs H Q E h => ?_) (fun cdv A outer s H vs Q E hr h => ?_)
  · obtain ⟨N, p, ab, m, x, b, t, rfl, _⟩ := h
    rfl
  · obtain ⟨N, p, ab, m, x, b, t, rfl, hm, al, hx, sz, b1, t1, k⟩ := h
    have hr1 : Room 1 _ := hr.mono (by decide)
    have hr34 : Room 34 _ := hr
    have hm0 := hm
    obtain ⟨⟨dx, vS, vT, vE, hp, hS, hT, hE⟩, np, na, ⟨xs, hxs, l, av⟩, k1, k4, n1⟩ := hm
    have pab : p ≠ ab := fun z => np (by rw [z]; exact na)
    refine ⟨_, pss_cons (ps_set (i := 2) scSta.nd rfl (.inl rfl) (pe_bm PySem.F.plainAttrs_str PySem.F.slot_str_index PySem.F.type_str_index mt_letterK (pe_call cAl.G hr1 rfl cAl.m cAl.kp cAl.b .nil pass0 (pa_cons (pe_fld (pv 0) rfl) pa_nil)) (pa_cons (pv 1) pa_nil)))
      (C8.pss_cut (ps_if (pt_cmpR op_isN1 (pe_ix ix_list (pe_fld (pv 0) rfl) (pv 2) (fun _ _ => rfl)) pe_non (nomark _))
        (pss_one (ps_asg (pe_call cTb.G hr34 rfl cTb.m cTb.kp cTb.b .nil pass0 (pa_cons (pe_ix ix_tup (pe_fld (pv 0) rfl) (pv 2) (fun _ _ => rfl)) pa_nil)) (pg_sub (pe_fld (pv 0) rfl) (pv 2) set_list)))
        pss_nil)
      (pss_one (ps_ret (pe_ix ix_list (pe_fld (pv 0) rfl) (pv 2) (fun _ _ => rfl))))), ?_⟩
    refine ⟨_, rfl, p, CM, dx, _, _, rfl, hp, TM.cl, TM.nL, mf_l, m.k, rfl, k1, k4, rfl, _, rfl, m.k, x, k4, hx, rfl, rfl, ?_⟩
    refine ⟨fun σ' H' => ∃ v ys, σ' = [some (.ref p), some (.str (ltr x)), some (.int (x : Int))] ∧ But ab H H' ∧ MachAt C CM N H' p ab m ∧ H' p = some (.ins CM dx (mf (m.k : Int) vS vT vE ab)) ∧ H' ab = some (.lst ys) ∧ ys[x]? = some v ∧ At C N H' v (absD m x), ?_, ?_⟩
    · have hi : atI xs (x : Int) = some (xs[x]'(by omega)) := at_of rfl (List.getElem?_eq_getElem _)
      have hxx : xs[x]? = some (xs[x]'(by omega)) := List.getElem?_eq_getElem _
      refine ⟨_, rfl, p, CM, dx, _, _, rfl, hp, TM.cl, TM.nA, mf_a, _, rfl, ab, xs, _, _, rfl, rfl, SqL.of hxs, hi, rfl, _, rfl, ?_⟩
      generalize hv : xs[x]'(by omega) = v at hi hxx
      rcases av x hx with h | ⟨v', h1, h2, h3⟩
      · rw [hxx] at h
        obtain rfl := Option.some.inj h
        refine itT (decide_eq_true rfl) ?_
        obtain ⟨q, rfl⟩ := hT.tupV
        obtain ⟨ts, hts, lt, et⟩ := At.tupR hT
        obtain ⟨y, hy, hyd⟩ := et x hx
        obtain ⟨ty, rfl⟩ := hyd.tupV
        refine ⟨_, rfl, p, CM, dx, _, _, rfl, hp, TM.cl, TM.nT, mf_t, _, rfl, q, ts, _, _, rfl, rfl, SqT.of hts, at_of rfl hy, N, ty, m.n, m.n, b, t, m.t x, rfl, hyd, al, n1, n1, sz, b1, by omega, fun r H1 s1 nr hr1' => ?_⟩
        have hp1 := s1 _ _ hp
        have hxs1 := s1 _ _ hxs
        have k1' : Keep N H1 (upd H1 ab (.lst (xs.set x (.ref r)))) := Keep.upd na
        refine ⟨_, rfl, p, CM, dx, _, _, rfl, hp1, TM.cl, TM.nA, mf_a, _, rfl, ab, xs, _, x, rfl, rfl, hxs1, ixN_at rfl (by omega), ?_⟩
        have hb : But ab H (upd H1 ab (.lst (xs.set x (.ref r)))) := fun c o hc n => by rw [upd_ne n]; exact s1 _ _ hc
        have lx : (xs.set x (.ref r)).length = m.k := by rw [List.length_set]; exact l
        refine ⟨.ref r, xs.set x (.ref r), rfl, hb, ?_, by rw [upd_ne pab]; exact hp1, upd_same, List.getElem?_set_self (by omega), hr1'.keep k1'⟩
        refine ⟨⟨dx, vS, _, vE, by rw [upd_ne pab]; exact hp1, (hS.same s1).keep k1', (hT.same s1).keep k1', (hE.same s1).keep k1'⟩, np, na, ⟨_, upd_same, lx, fun y hy => ?_⟩, k1, k4, n1⟩
        by_cases e : y = x
        · subst e
          exact .inr ⟨.ref r, List.getElem?_set_self (by omega), (fun z => nomatch z), hr1'.keep k1'⟩
        · rw [List.getElem?_set_ne (by omega)]
          rcases av y hy with h | ⟨v', h1, h2, h3⟩
          · exact .inl h
          · exact .inr ⟨v', h1, h2, (h3.same s1).keep k1'⟩
      · rw [hxx] at h1
        obtain rfl := Option.some.inj h1
        refine itF (decide_eq_false h2) ?_
        exact ⟨v, xs, rfl, But.refl ab H, hm0, hp, hxs, hxx, h3⟩
    · rintro σ' H1 ⟨v, ys, rfl, b1', hm1, hp1, hys, hv, hd⟩
      refine ⟨_, rfl, p, CM, dx, _, _, rfl, hp1, TM.cl, TM.nA, mf_a, _, rfl, ab, ys, _, _, rfl, rfl, SqL.of hys, at_of rfl hv, ?_⟩
      exact k v H1 b1' hm1 hd
theorem row_snoc {n : Nat} {t : Nat → Nat → Nat → Rat} {s : Nat → Rat} {u : List Nat} {x : Nat} : VN.row n t s (u ++ [x]) = fun j => VM.dot (VN.row n t s u) (fun i => t x i j) n := by
  rw [VN.row_append]
  rfl
theorem MachAt.there {C CM : Addr} {N : Addr → Prop} {H : Hp} {p ab : Addr} {m : Mc} (h : MachAt C CM N H p ab m) : H ab ≠ none := by
  obtain ⟨xs, hx, _⟩ := h.av
  rw [hx]; intro z; cases z
theorem MachAt.less {C CM : Addr} {N M : Addr → Prop} {H : Hp} {p ab : Addr} {m : Mc} (h : MachAt C CM N H p ab m) (s : ∀ b, M b → N b) (na : M ab) : MachAt C CM M H p ab m := by
  obtain ⟨⟨dx, vS, vT, vE, hp, hS, hT, hE⟩, np, _, ⟨xs, hx, l, av⟩, k1, k4, n1⟩ := h
  refine ⟨⟨dx, vS, vT, vE, hp, hS.less s, hT.less s, hE.less s⟩, fun z => np (s _ z), na, ⟨xs, hx, l, fun x hx => ?_⟩, k1, k4, n1⟩
  rcases av x hx with h | ⟨v, h1, h2, h3⟩
  · exact .inl h
  · exact .inr ⟨v, h1, h2, h3.less s⟩
theorem Keep.toBut {H H' : Hp} {a : Addr} (k : Keep (fun b => b = a) H H') : But a H H' := fun c o hc ne => k.k c o hc ne
/-- the steps of letters are gathered in a list -/
structure Gath (C CM : Addr) (N : Addr → Prop) (H0 : Hp) (D p ab : Addr) (m : Mc) (ds : List Dat) (G : Hp) : Prop where
  b : Bld C (fun b => b = ab) N H0 D ds G
  m : MachAt C CM (And1 N D) G p ab m
theorem gath0 {C CM : Addr} {N : Addr → Prop} {H0 : Hp} {D p ab : Addr} {m : Mc} (h : MachAt C CM N H0 p ab m) (nD : H0 D = none) : Gath C CM N H0 D p ab m [] (upd H0 D (.lst [])) :=
  ⟨bld0 nD, (h.and nD).same (Same.upd nD)⟩
theorem Gath.step {C CM : Addr} {N : Addr → Prop} {H0 G G' : Hp} {D p ab : Addr} {m : Mc} {ds : List Dat} {v : V} {d : Dat} (g : Gath C CM N H0 D p ab m ds G) (nD : H0 D = none) (na : N ab) (ne : ab ≠ D) (b : But ab G G') (h : MachAt C CM (And1 N D) G' p ab m) (hv : At C (And1 N D) G' v d) :
    ∃ acc, G' D = some (.lst acc) ∧ acc.length = ds.length ∧ Gath C CM N H0 D p ab m (ds ++ [d]) (upd G' D (.lst (acc ++ [v]))) := by
  obtain ⟨acc, h1, h2, h3⟩ := g.b.step nD (Keep.but (N := fun b => b = ab) b rfl h.there) (fun b e => by rw [e]; exact na) (Ne.symm ne) hv
  refine ⟨acc, h1, h2, h3, h.but (But.upd D G' _) ne (.inr rfl) (by rw [upd_same]; intro z; cases z)⟩
theorem ok_rwa {f fC fR fS fW fT C CM : Addr} {fd dC dR dS dW dT : FuncData} (F : Fun K "_row_above" "Machine._row_above" sRwa f fd) (TM : TxtM K mg CM) (cCw : CalN P w K mg base "check_word" 2 ["letters", "word"] spCw fC dC)
    (cRa : CalN P w K mg base "row_above" 34 ["row"] (spRa C) fR dR) (cSt : MetN P w K mg base CM "_step_above" 35 ["self", "letter"] (spSta C CM) fS dS) (cWr : CalN P w K mg base "whole_row_times" 1 ["row", "square"] (spWr C) fW dW)
    (cRth : CalN P w K mg base "row_through" 34 ["tops", "bottom", "steps", "lead"] (spRth C stR fW) fT dT) :
    FnOk P w K mg base CX0 36 f fd ["self", "word"] (spRwa C CM) := by
  refine F.ok scRwa (fun vs H Q E h => ?_) (fun cdv A outer s H vs Q E hr h => ?_)
  · obtain ⟨N, p, ab, m, u, b, t, rfl, _⟩ := h
    rfl
  · obtain ⟨N, p, ab, m, u, b, t, rfl, hm, al, hu, lu, sz, k⟩ := h
    have hr2 : Room 2 _ := hr.mono (by decide)
    have hr34 : Room 34 _ := hr.mono (by decide)
    have hr35 : Room 35 _ := hr
    have k1 := hm.k1
    have k4 := hm.k4
    have n1 := hm.n1
    have na := hm.na
    have b1 := sz.b1
    have t1 := sz.t1
    obtain ⟨dx, vS, vT, vE, hp, hS, hT, hE⟩ := hm.ex
    obtain ⟨qs, rfl⟩ := hS.tupV
    refine ⟨_, pss_cons (ps_expr (pe_call cCw.G hr2 rfl cCw.m cCw.kp cCw.b .nil pass0 (pa_cons (pe_fld (pv 0) rfl) (pa_cons (pv 1) pa_nil))))
      (pss_cons (ps_asg (pe_call cRa.G hr34 rfl cRa.m cRa.kp cRa.b .nil pass0 (pa_cons (pe_fld (pv 0) rfl) pa_nil)) (pg_tup rfl (pgs_cons (pg_name (i := 2) scRwa.nd rfl (.inl rfl)) (pgs_cons (pg_name (i := 3) scRwa.nd rfl (.inl rfl)) pgs_nil))))
      (pss_cons (ps_setLc (i := 4) (own := [("letter", 5)]) (g := gName 5) (tt := tYes) rfl scRwa.nd rfl rfl (sw_true rfl rfl rfl (by decide +kernel)) (pi_str (pv 1)) (blkOk_by (N := ["self", "word", "tops", "bottom", "steps", "letter"]) (sc := (defScope sRwa)) (by decide +kernel)) (fun _ _ _ _ _ => (pg_name (i := 5) scRwa.nd rfl (.inl rfl))) (fun _ _ _ _ _ => pts_nil) (fun _ _ _ _ _ => (pe_meth (pv 0) TM.cl cSt.m cSt.G hr35 cSt.b .nil pass0 (pa_cons (pv 5) pa_nil))))
      (pss_one (ps_ret (pe_call cRth.G hr34 rfl cRth.m cRth.kp cRth.b .nil pass0 (pa_cons (pv 2) (pa_cons (pv 3) (pa_cons (pv 4) (pa_cons (pe_glob (v := .ref _) (by rfl) cWr.m rfl) pa_nil))))))))), ?_⟩
    refine ⟨_, rfl, p, CM, dx, _, _, rfl, hp, TM.cl, TM.nL, mf_l, _, rfl, m.k, u, rfl, k1, k4, hu, ?_⟩
    refine ⟨_, rfl, p, CM, dx, _, _, rfl, hp, TM.cl, TM.nS, mf_s, N, qs, m.n, b, t, m.s, rfl, hS, al, n1, sz.sS, b1, by omega, fun r H1 s1 nr hr0 => ?_⟩
    obtain ⟨xs, hx, lx, ex⟩ := hr0.tupE
    match xs, lx with
    | [v0, v1], _ =>
    have h0 := ex 0 v0 _ rfl rfl
    have h1 := (ex 1 v1 _ rfl rfl).intV
    subst h1
    obtain ⟨q, rfl⟩ := h0.lstV
    refine ⟨r, _, rfl, SqT.of hx, rfl, _, _, rfl, _, _, rfl, rfl, ?_⟩
    have hm1 := hm.same s1
    have al1 := al.keep (Same.keep (N := N) s1)
    refine ⟨_, rfl, _, rfl, fun D nD => ?_⟩
    have nND := al1.fresh nD
    have ne : ab ≠ D := fun e => nND (by rw [← e]; exact na)
    refine lc_it (walk_str (z := wd u)) (fun i G => Gath C CM N H1 D p ab m (rng i fun i => absD m (u.getD i 0)) G) (gath0 hm1 nD) (fun _ _ _ _ => trivial) ?_ ?_
    · rintro i x G1 G2 hi g ⟨rfl, c, hc, rfl⟩
      have il : i < u.length := by
        have : (wd u).cps.size = u.length := wd_len
        rw [this] at hi
        exact hi
      rw [wd_at, List.getElem?_eq_getElem il] at hc
      obtain rfl := Option.some.inj hc
      have xk : u[i] < m.k := hu _ (List.getElem_mem il)
      have ed : u.getD i 0 = u[i] := by rw [List.getD_eq_getElem?_getD, List.getElem?_eq_getElem il]; rfl
      obtain ⟨dx2, vS2, vT2, vE2, hp2, _, _, _⟩ := g.m.ex
      refine ⟨rfl, _, rfl, p, dx2, _, rfl, hp2, mf_no (by decide +kernel) (by decide +kernel) (by decide +kernel) (by decide +kernel) (by decide +kernel), _, rfl, And1 N D, p, ab, m, u[i], b, t, rfl, g.m, g.b.alc al1, xk, sz.sT _ xk, b1, t1, fun v H4 b4 hm4 hv => ?_⟩
      obtain ⟨acc, h1, h2, h3⟩ := g.step nD na ne b4 hm4 hv
      refine ⟨acc, h1, by rw [h2, rng_len]; exact small1000 (by omega), ?_⟩
      rw [rng_succ, ed]
      exact h3
    · rintro G1 g
      have e1 : (wd u).cps.size = u.length := wd_len
      rw [e1] at g
      have bG : But ab H1 G1 := Keep.toBut g.b.k
      have kG : Keep N H1 G1 := g.b.k.more fun b e => by rw [e]; exact na
      have mG : MachAt C CM N G1 p ab m := g.m.less (fun _ z => .inl z) na
      have bz : t + u.length * (t + m.n) ≤ 60000000 := by
        have : u.length * (t + m.n) ≤ 400 * (100000 + 1000) := Nat.mul_le_mul lu (by omega)
        omega
      have bb : b + u.length * b ≤ 60000000 := by
        have : u.length * b ≤ 400 * 12999 := Nat.mul_le_mul lu b1
        omega
      refine ⟨_, rfl, _, rfl, _, rfl, N, q, D, m.n, u.length, b, t, b, t, _, _, fun i => m.t (u.getD i 0), fun i => rowN m (u.take i), rfl, h0.keep kG, g.b.done nND, al1.keep kG, n1, bb, bz, by omega, by omega, abv_row sz.sS, fun i hi => ?_, fun i hi z B b' t' av => ?_, fun v z B H5 s5 hv av => ?_⟩
      · have : u.getD i 0 < m.k := by
          rw [List.getD_eq_getElem?_getD, List.getElem?_eq_getElem hi]
          exact hu _ (List.getElem_mem hi)
        exact sz.sT _ this
      · have e : u.take (i + 1) = u.take i ++ [u.getD i 0] := by
          rw [List.take_add_one, List.getD_eq_getElem?_getD, List.getElem?_eq_getElem hi]
          rfl
        have xk : u.getD i 0 < m.k := by
          rw [List.getD_eq_getElem?_getD, List.getElem?_eq_getElem hi]
          exact hu _ (List.getElem_mem hi)
        have er : rowN m (u.take (i + 1)) = fun j => VM.dot (rowN m (u.take i)) (fun l => m.t (u.getD i 0) l j) m.n := by
          unfold rowN
          rw [e, row_snoc]
        show Abv m.n (rowN m (u.take (i + 1))) _ _ _ _
        rw [er]
        exact abv_step av (sz.sT _ xk)
      · simp only [List.take_length] at av
        exact k v z B H5 (((Same.but s1).trans bG).trans (Same.but s5)) (mG.same s5) hv (av.up (by rw [Nat.mul_succ, Nat.mul_comm]; omega) (Nat.le_refl _))
theorem ok_num {f fR fA fW fI C CM : Addr} {fd dR dA dW dI : FuncData} (F : Fun K "number" "Machine.number" sNum f fd) (TR : TxtR K mg C) (TM : TxtM K mg CM) (M : Mk K C fI) (GI : FnOk P w K mg base CX0 33 fI dI ["self", "top", "bottom"] (spInitB C)) (bI : Binds K dI ["self", "top", "bottom"] [])
    (cRw : MetN P w K mg base CM "_row_above" 36 ["self", "word"] (spRwa C CM) fR dR) (cRa : CalN P w K mg base "row_above" 34 ["row"] (spRa C) fA dA) (cWp : CalN P w K mg base "whole_product" 1 ["one", "other"] (spWp C) fW dW) :
    FnOk P w K mg base CX0 37 f fd ["self", "word"] (spNum C CM) := by
  refine F.ok scNum (fun vs H Q E h => ?_) (fun cdv A outer s H vs Q E hr h => ?_)
  · obtain ⟨N, p, ab, m, u, b, t, rfl, _⟩ := h
    rfl
  · obtain ⟨N, p, ab, m, u, b, t, rfl, hm, al, hu, lu, sz, k⟩ := h
    have hr1 : Room 1 _ := hr.mono (by decide)
    have hr34 : Room 34 _ := hr.mono (by decide)
    have hr36 : Room 36 _ := hr
    have n1 := hm.n1
    have na := hm.na
    have b1 := sz.b1
    have t1 := sz.t1
    obtain ⟨dx, vS, vT, vE, hp, hS, hT, hE⟩ := hm.ex
    refine ⟨_, pss_cons (ps_asg (pe_meth (pv 0) TM.cl cRw.m cRw.G hr36 cRw.b .nil pass0 (pa_cons (pv 1) pa_nil)) (pg_tup rfl (pgs_cons (pg_name (i := 2) scNum.nd rfl (.inl rfl)) (pgs_cons (pg_name (i := 3) scNum.nd rfl (.inl rfl)) pgs_nil))))
      (pss_cons (ps_asg (pe_call cRa.G hr34 rfl cRa.m cRa.kp cRa.b .nil pass0 (pa_cons (pe_fld (pv 0) rfl) pa_nil)) (pg_tup rfl (pgs_cons (pg_name (i := 4) scNum.nd rfl (.inl rfl)) (pgs_cons (pg_name (i := 5) scNum.nd rfl (.inl rfl)) pgs_nil))))
      (pss_one (ps_ret (pe_make M GI hr34 rfl TR.mgC bI .nil pass0 (pa_cons (pe_call cWp.G hr1 rfl cWp.m cWp.kp cWp.b .nil pass0 (pa_cons (pv 2) (pa_cons (pv 4) pa_nil))) (pa_cons (pe_op RQ.op_mulH (pv 3) (pv 5)) pa_nil)))))), ?_⟩
    refine ⟨_, rfl, p, dx, _, rfl, hp, mf_no (by decide +kernel) (by decide +kernel) (by decide +kernel) (by decide +kernel) (by decide +kernel), _, rfl, N, p, ab, m, u, b, t, rfl, hm, al, hu, lu, sz, fun v z B H1 b1' hm1 hv av => ?_⟩
    have there : ∀ {G : Hp}, MachAt C CM N G p ab m → G ab ≠ none := fun h => by
      obtain ⟨xs, hx, _⟩ := h.av
      rw [hx]; intro z; cases z
    have kp1 : Keep N H H1 := Keep.but b1' na (there hm1)
    obtain ⟨r, rfl⟩ := hv.tupV
    obtain ⟨xs, hx, lx, ex⟩ := hv.tupE
    match xs, lx with
    | [w0, w1], _ =>
    have h0 := ex 0 w0 _ rfl rfl
    have h1 := (ex 1 w1 _ rfl rfl).intV
    subst h1
    obtain ⟨tq, rfl⟩ := h0.lstV
    refine ⟨r, _, rfl, SqT.of hx, rfl, _, _, rfl, _, _, rfl, rfl, ?_⟩
    obtain ⟨dx1, vS1, vT1, vE1, hp1, hS1, hT1, hE1⟩ := hm1.ex
    obtain ⟨qe, rfl⟩ := hE1.tupV
    refine ⟨_, rfl, p, CM, dx1, _, _, rfl, hp1, TM.cl, TM.nE, mf_e, N, qe, m.n, b, t, m.e, rfl, hE1, al.keep kp1, n1, sz.sE, b1, by omega, fun r2 H2 s2 nr2 hr2 => ?_⟩
    obtain ⟨xs2, hx2, lx2, ex2⟩ := hr2.tupE
    match xs2, lx2 with
    | [y0, y1], _ =>
    have g0 := ex2 0 y0 _ rfl rfl
    have g1 := (ex2 1 y1 _ rfl rfl).intV
    subst g1
    obtain ⟨eq, rfl⟩ := g0.lstV
    refine ⟨r2, _, rfl, SqT.of hx2, rfl, _, _, rfl, _, _, rfl, rfl, ?_⟩
    have bz : t + u.length * (t + m.n) ≤ 60000000 := by
      have : u.length * (t + m.n) ≤ 400 * (100000 + 1000) := Nat.mul_le_mul lu (by omega)
      omega
    have bb : b * (u.length + 1) ≤ 60000000 := by
      have : b * (u.length + 1) ≤ 12999 * 401 := Nat.mul_le_mul b1 (by omega)
      omega
    refine ⟨_, rfl, _, rfl, N, tq, eq, m.n, z, _, rfl, h0.same s2, g0, n1, fun j hj => ⟨Hg.bt (av.bt j hj) bz, Hg.bt (sz.sE.t j hj) (by omega)⟩, fun H3 s3 => ?_⟩
    refine ⟨_, rfl, _, rfl, _, _, rfl, rfl, ⟨Hg.bt av.bb bb, Hg.bt sz.sE.b (by omega)⟩, fun x dx nx nd _ => ?_⟩
    have b0 : B * ((cb m.e m.n : Nat) : Int) ≠ 0 := Int.mul_ne_zero av.b0 cb_ne
    refine make4 b0 nx nd fun H4 s4 hR => ⟨rfl, ?_⟩
    have e := abv_sum (p := m.e) av (y := topz m.e ((cb m.e m.n : Nat) : Int)) (c := ((cb m.e m.n : Nat) : Int)) fun i hi => topz_eq (Int.natCast_dvd_natCast.mpr (cb_dvd hi))
    obtain ⟨e1, e2⟩ := RQ.low b0 e
    rw [e1, e2] at hR
    have sA := (s2.trans s3).trans s4
    have nH : H x = none := kp1.free ((s2.trans s3).free nx)
    exact k x H4 (b1'.trans (Same.but sA)) nH (hm1.same sA) (.rat hR (al.fresh nH))
theorem ok_call {f fN C CM : Addr} {fd dN : FuncData} (F : Fun K "__call__" "Machine.__call__" sCall f fd) (TM : TxtM K mg CM) (cNu : MetN P w K mg base CM "number" 37 ["self", "word"] (spNum C CM) fN dN) :
    FnOk P w K mg base CX0 38 f fd ["self", "word"] (spNum C CM) := by
  refine F.ok scCall (fun vs H Q E h => ?_) (fun cdv A outer s H vs Q E hr h => ?_)
  · obtain ⟨N, p, ab, m, u, b, t, rfl, _⟩ := h
    rfl
  · obtain ⟨N, p, ab, m, u, b, t, rfl, hm, al, hu, lu, sz, k⟩ := h
    have hr37 : Room 37 _ := hr
    obtain ⟨dx, vS, vT, vE, hp, hS, hT, hE⟩ := hm.ex
    refine ⟨_, pss_one (ps_ret (pe_meth (pv 0) TM.cl cNu.m cNu.G hr37 cNu.b .nil pass0 (pa_cons (pv 1) pa_nil))), ?_⟩
    exact ⟨_, rfl, p, dx, _, rfl, hp, mf_no (by decide +kernel) (by decide +kernel) (by decide +kernel) (by decide +kernel) (by decide +kernel), _, rfl, N, p, ab, m, u, b, t, rfl, hm, al, hu, lu, sz, k⟩
theorem rAll_all {bs : List Bool} (h : ∀ b ∈ bs, b = true) : bs.all id = true := by
  rw [List.all_eq_true]
  exact h
def trues (n : Nat) : List V := List.replicate n (V.bl true)
theorem trues_len {n : Nat} : (trues n).length = n := List.length_replicate
theorem trues_succ {n : Nat} : trues (n + 1) = trues n ++ [V.bl true] := List.replicate_succ'
theorem ok_fit {f C CM : Addr} {fd : FuncData} (F : Fun K "_fits" "Machine._fits" sFit f fd) (T : TxtL mg) (TM : TxtM K mg CM) (mall : mg "all" = none) : FnOk P w K mg base CX0 1 f fd ["self"] (spFit C CM) := by
  refine F.ok scFit (fun vs H Q E h => ?_) (fun cdv A outer s H vs Q E hr h => ?_)
  · obtain ⟨N, p, dx, vS, vT, vE, m, rfl, _⟩ := h
    rfl
  · obtain ⟨N, p, dx, vS, vT, vE, m, rfl, hp, hS, hT, hE, k1, k4, n1, k⟩ := h
    obtain ⟨qs, rfl⟩ := hS.tupV
    obtain ⟨qt, rfl⟩ := hT.tupV
    obtain ⟨qe, rfl⟩ := hE.tupV
    obtain ⟨xs, hxs, lxs, exs⟩ := At.tupR hS
    obtain ⟨xt, hxt, lxt, ext⟩ := At.tupR hT
    obtain ⟨xe, hxe, lxe, exe⟩ := At.tupR hE
    refine ⟨_, pss_cons (ps_set (i := 1) scFit.nd rfl (.inr rfl) (pe_callB call_len_seq (by rfl) T.len PySem.boot_len (pa_cons (pe_fld (pv 0) rfl) pa_nil)))
      (C8.pss_cut (ps_if (PW.pt (pw_or (pt_not (pt_chain op_le op_le pe_int (pe_fld (pv 0) rfl) pe_int)) (pw_or (pt_cmpR op_ne (pe_callB call_len_seq (by rfl) T.len PySem.boot_len (pa_cons (pe_fld (pv 0) rfl) pa_nil)) (pv 1) (nomark _)) (pw_or1 (pt_cmpR op_ne (pe_callB call_len_seq (by rfl) T.len PySem.boot_len (pa_cons (pe_fld (pv 0) rfl) pa_nil)) (pe_fld (pv 0) rfl) (nomark _))))))
        (pss_one (ps_ret pe_bl))
        pss_nil)
      (pss_one (ps_ret (pe_callB (cr_all rfl) (by rfl) mall (by decide +kernel) (pa_cons (pe_lc (own := [("step", 2)]) (g := gName 2) (tt := tYes) rfl scFit.nd (pi_tup (pe_fld (pv 0) rfl)) (blkOk_by (N := ["self", "size", "step", "row"]) (sc := (defScope sFit)) (by decide +kernel)) (fun _ _ _ _ _ => (pg_name (i := 2) scFit.nd rfl (.inl rfl))) (fun _ _ _ _ _ => pts_nil) (fun _ _ _ _ _ => (pe_and (pe_cmpR op_eq (pe_callB (show CallR _ (.builtin "len") (rLenS K) from call_len_seqK) (by rfl) T.len PySem.boot_len (pa_cons (pv 2) pa_nil)) (pv 1) (nomark _)) (pe_one (pe_callB (show CallR _ _ (rAll K) from cr_all rfl) (by rfl) mall (by decide +kernel) (pa_cons (pe_lc (own := [("row", 3)]) (g := gName 3) (tt := tYes) rfl scFit.nd (pi_tupK (K := K) rfl (pv 2)) (blkOk_by (N := ["self", "size", "step", "row"]) (sc := outFit0) (by decide +kernel)) (fun _ _ _ _ _ => (pg_name (i := 3) scFit.nd rfl (.inl rfl))) (fun _ _ _ _ _ => pts_nil) (fun _ _ _ _ _ => (pe_cmpR op_eq (pe_callB (show CallR _ (.builtin "len") (rLenS K) from call_len_seqK) (by rfl) T.len PySem.boot_len (pa_cons (pv 3) pa_nil)) (pv 1) (nomark _)))) pa_nil)))))) pa_nil))))), ?_⟩
    refine ⟨_, rfl, p, CM, dx, _, _, rfl, hp, TM.cl, TM.nS, mf0_s, qs, xs, rfl, .inr (SqT.of hxs), ?_⟩
    rw [lxs]
    refine ⟨fun σ' H' => σ' = [some (.ref p), some (.int (m.n : Int)), none, none] ∧ H' = H, ?_, ?_⟩
    · refine ⟨_, rfl, p, CM, dx, _, _, rfl, hp, TM.cl, TM.nL, mf0_l, _, _, rfl, rfl, _, rfl, ?_⟩
      refine itT (decide_eq_true (by omega)) ?_
      refine ⟨_, _, rfl, rfl, _, rfl, ?_⟩
      refine itF (by rw [decide_eq_true (show (m.k : Int) ≤ 4 by omega)]; rfl) ?_
      refine ⟨_, rfl, p, CM, dx, _, _, rfl, hp, TM.cl, TM.nE, mf0_e, qe, xe, rfl, .inr (SqT.of hxe), _, rfl, rfl, _, rfl, ?_⟩
      rw [lxe]
      refine itF (by rw [decide_eq_true rfl]; rfl) ?_
      refine ⟨_, rfl, p, CM, dx, _, _, rfl, hp, TM.cl, TM.nT, mf0_t, qt, xt, rfl, .inr (SqT.of hxt), _, rfl, p, CM, dx, _, _, rfl, hp, TM.cl, TM.nL, mf0_l, rfl, _, rfl, ?_⟩
      rw [lxt]
      refine itF (by rw [decide_eq_true rfl]; rfl) ?_
      exact ⟨rfl, rfl⟩
    · rintro σ' H' ⟨rfl, rfl⟩
      refine ⟨_, rfl, p, CM, dx, _, _, rfl, hp, TM.cl, TM.nT, mf0_t, qt, rfl, ⟨_, SqT.of hxt⟩, fun D nD => ?_⟩
      refine lc_it (walk_tup (K := K) (a := qt) (xs := xt)) (fun i H1 => H1 D = some (.lst (trues i)) ∧ Same H' H1) ⟨upd_same, Same.upd nD⟩ (fun i H1 _ h => SqT.of (h.2 _ _ hxt)) ?_ ?_
      · rintro i x H1 H2 hi ⟨hD, s1⟩ ⟨rfl, hx⟩
        rw [lxt] at hi
        obtain ⟨x', hx', hd⟩ := ext i hi
        rw [hx'] at hx
        obtain rfl := Option.some.inj hx
        obtain ⟨ty, rfl⟩ := hd.tupV
        obtain ⟨ys, hys, lys, eys⟩ := At.tupR (hd.same s1)
        refine ⟨rfl, _, rfl, ty, ys, rfl, .inr (SqT.of hys), _, rfl, rfl, _, rfl, ?_⟩
        rw [lys]
        refine itT (decide_eq_true rfl) ?_
        refine ⟨_, rfl, ty, rfl, ⟨_, SqT.of hys⟩, fun G nG => ?_⟩
        have GD : D ≠ G := ne_of_none hD nG
        refine lc_it (walk_tup (K := K) (a := ty) (xs := ys)) (fun j H4 => H4 G = some (.lst (trues j)) ∧ Same H2 H4) ⟨upd_same, Same.upd nG⟩ (fun i H1 _ h => SqT.of (h.2 _ _ hys)) ?_ ?_
        · rintro j y H4 H5 hj ⟨hG, s4⟩ ⟨rfl, hy⟩
          rw [lys] at hj
          obtain ⟨y', hy', hd'⟩ := eys j hj
          rw [hy'] at hy
          obtain rfl := Option.some.inj hy
          obtain ⟨tz, rfl⟩ := hd'.tupV
          obtain ⟨zs, hzs, lzs, _⟩ := At.tupR (hd'.same s4)
          refine ⟨rfl, _, rfl, tz, zs, rfl, .inr (SqT.of hzs), _, rfl, rfl, ?_⟩
          rw [lzs]
          refine ⟨_, hG, by rw [trues_len]; exact small1000 (by omega), ?_, fun c o hc => ?_⟩
          · rw [upd_same, decide_eq_true rfl, trues_succ]
          · rw [upd_ne (ne_of_none hc nG)]
            exact s4 _ _ hc
        · rintro H4 ⟨hG, s4⟩
          rw [lys] at hG
          refine ⟨G, List.replicate m.n true, rfl, SqL.of (by rw [hG]; unfold trues; rw [List.map_replicate]), ?_⟩
          rw [show (List.replicate m.n true).all id = true from rAll_all fun b hb => (List.eq_of_mem_replicate hb)]
          refine ⟨_, s4 _ _ hD, by rw [trues_len]; exact small1000 (by omega), ?_, fun c o hc => ?_⟩
          · rw [upd_same, trues_succ]
          · rw [upd_ne (ne_of_none hc nD)]
            exact s4 _ _ (s1 _ _ hc)
      · rintro H1 ⟨hD, s1⟩
        rw [lxt] at hD
        refine ⟨D, List.replicate m.k true, rfl, SqL.of (by rw [hD]; unfold trues; rw [List.map_replicate]), ?_⟩
        rw [show (List.replicate m.k true).all id = true from rAll_all fun b hb => (List.eq_of_mem_replicate hb)]
        exact k H1 s1
end
end RX

set_option Elab.async false
set_option maxRecDepth 100000
namespace RX
open PySem L2 LX VA
open RQ (Hg Bt)
theorem tup_of {K : PySem.W.Frag} {C : Addr} {N : Addr → Prop} {H : Hp} {q : Addr} {ds : List Dat} {Q : VK} (h : At C N H (.ref q) (.sq ds)) (al : Alc N H) (k : ∀ (r : Addr) (H' : Hp), Same H H' → At C N H' (.ref r) (.tup ds) → Q (.ref r) H') : rTupO K [.ref q] H Q := by
  have nq := h.notin
  obtain ⟨xs, hq, l, e⟩ := h.sqE
  rcases hq with hq | hq
  · exact ⟨q, xs, rfl, .inr ⟨SqT.of hq, k q H (Same.refl H) (.tup hq nq l e)⟩⟩
  · exact ⟨q, xs, rfl, .inl ⟨SqL.of hq, fun r nr => k r _ (Same.upd nr) (At.newT al nr l e)⟩⟩
theorem tCB_tup {K : PySem.W.Frag} {C : Addr} {N : Addr → Prop} {σ : L2.St} {H : Hp} {te : TE} {q : Addr} {ds : List Dat} {Q : VK} (ht : ∀ Q : VK, Q (.ref q) H → te σ H Q) (h : At C N H (.ref q) (.sq ds)) (al : Alc N H) (k : ∀ (r : Addr) (H' : Hp), Same H H' → At C N H' (.ref r) (.tup ds) → Q (.ref r) H') : tCB (rTupO K) (tCons te tNil) σ H Q :=
  ht _ (tup_of h al k)
theorem or_walk {K : PySem.W.Frag} {σ : L2.St} {H : Hp} {R : It → Hp → Prop} {te : TE} {q : Addr} {xs : List V} (ht : ∀ Q : VK, Q (.ref q) H → te σ H Q) (hq : H q = some (.tup xs) ∨ H q = some (.lst xs))
    (h : ∀ J : It, Walk J xs.length (fun H' => H' q = H q) (YAt xs) → R J H) : iList K te σ H R ∨ iTup K te σ H R := by
  rcases hq with hq | hq
  · refine .inr (ht _ ⟨q, rfl, ⟨xs, SqT.of hq⟩, h _ (walk_tup.mono (fun H' e => SqT.of (e.trans hq)) fun _ _ _ _ _ _ y => y)⟩)
  · refine .inl (ht _ ⟨q, rfl, ⟨xs, SqL.of hq⟩, h _ (walk_list.mono (fun H' e => SqL.of (e.trans hq)) fun _ _ _ _ _ _ y => y)⟩)
theorem flat_one : ∀ {n : Nat}, (List.replicate n [V.non]).flatten = List.replicate n V.non
  | 0 => rfl
  | n + 1 => by
    rw [List.replicate_succ, List.flatten_cons, flat_one, List.replicate_succ]
    rfl
def sqS (m : Mc) : Dat := .sq (rng m.k fun x => .sq (rng m.n fun i => .sq (rng m.n fun j => .rat (m.t x i j))))
def sqR (n : Nat) (u : Nat → Rat) : Dat := .sq (rng n fun j => .rat (u j))
def spMi (C CM : Addr) : Sp := fun vs H Q _ => ∃ (N : Addr → Prop) (p dx : Addr) (vS vT vE : V) (m : Mc), vs = [.ref p, .int (m.k : Int), vS, vT, vE] ∧ H p = some (.ins CM dx []) ∧ At C (And1 N p) H vS (sqR m.n m.s) ∧ At C (And1 N p) H vT (sqS m) ∧ At C (And1 N p) H vE (sqR m.n m.e) ∧ 1 ≤ m.k ∧ m.k ≤ 4 ∧ m.n ≤ 1000 ∧ Alc N H ∧ ¬ N p ∧
  ∀ (ab : Addr) (H' : Hp), (∀ c o, H c = some o → c ≠ p → H' c = some o) → H ab = none → MachAt C CM (And1 N ab) H' p ab m → H' ab = some (.lst (List.replicate m.k .non)) → Q .non H'
section
variable {P : Program} {w : World} {K : PySem.W.Frag} {mg : Str → Option Value} {base : Heap}
theorem ok_mi {f fF C CM : Addr} {fd dF : FuncData} (F : Fun K "__init__" "Machine.__init__" sMi f fd) (TP : TxtP mg) (TM : TxtM K mg CM) (cFi : MetN P w K mg base CM "_fits" 1 ["self"] (spFit C CM) fF dF) :
    FnOk P w K mg base CX0 2 f fd ["self", "letters", "start", "steps", "end"] (spMi C CM) := by
  refine F.ok scMi (fun vs H Q E h => ?_) (fun cdv A outer s H vs Q E hr h => ?_)
  · obtain ⟨N, p, dx, vS, vT, vE, m, rfl, _⟩ := h
    rfl
  · obtain ⟨N, p, dx, vS, vT, vE, m, rfl, hp, hS, hT, hE, k1, k4, n1, al, np, k⟩ := h
    have hr1 : Room 1 _ := hr
    obtain ⟨qS, rfl⟩ := hS.sqV
    obtain ⟨qT, rfl⟩ := hT.sqV
    obtain ⟨qE, rfl⟩ := hE.sqV
    have pN : And1 N p p := .inr rfl
    have al' : Alc (And1 N p) H := al.and (by rw [hp]; intro z; cases z)
    refine ⟨_, pss_cons (ps_fld (pv 0) (pv 1) rfl)
      (pss_cons (ps_fld (pv 0) (pe_callTy (T := "tuple") call_tuple_of (by rfl) TP.tup (by decide +kernel) (pa_cons (pv 2) pa_nil)) rfl)
      (pss_cons (ps_fld (pv 0) (pe_callTy (T := "tuple") call_tuple_of (by rfl) TP.tup (by decide +kernel) (pa_cons (pe_lc (own := [("step", 5)]) (g := gName 5) (tt := tYes) rfl scMi.nd (XC.pi_or (pi_list (pv 3)) (pi_tup (pv 3))) (blkOk_by (N := ["self", "letters", "start", "steps", "end", "step", "row"]) (sc := (defScope sMi)) (by decide +kernel)) (fun _ _ _ _ _ => (pg_name (i := 5) scMi.nd rfl (.inl rfl))) (fun _ _ _ _ _ => pts_nil) (fun _ _ _ _ _ => (pe_callTy (T := "tuple") (show CallR _ (.type "tuple") (rTupO K) from call_tupK) (by rfl) TP.tup (by decide +kernel) (pa_cons (pe_lc (own := [("row", 6)]) (g := gName 6) (tt := tYes) rfl scMi.nd (XC.pi_or (pi_listK (K := K) rfl (pv 5)) (pi_tupK (K := K) rfl (pv 5))) (blkOk_by (N := ["self", "letters", "start", "steps", "end", "step", "row"]) (sc := outMi0) (by decide +kernel)) (fun _ _ _ _ _ => (pg_name (i := 6) scMi.nd rfl (.inl rfl))) (fun _ _ _ _ _ => pts_nil) (fun _ _ _ _ _ => (pe_callTy (T := "tuple") (show CallR _ (.type "tuple") (rTupO K) from call_tupK) (by rfl) TP.tup (by decide +kernel) (pa_cons (pv 6) pa_nil)))) pa_nil)))) pa_nil)) rfl)
      (pss_cons (ps_fld (pv 0) (pe_callTy (T := "tuple") call_tuple_of (by rfl) TP.tup (by decide +kernel) (pa_cons (pv 4) pa_nil)) rfl)
      (pss_cons (ps_if (pt_not (pt_val (pe_meth0 (pv 0) TM.cl cFi.m cFi.G hr1 cFi.b .nil pass0)))
        (pss_one ps_never)
        pss_nil)
      (pss_one (ps_fld (pv 0) (pe_op op_rep (pe_lst (pa_cons pe_non pa_nil)) (pv 1)) rfl)))))), ?_⟩
    -- letters
    refine ⟨_, rfl, _, rfl, p, CM, dx, _, rfl, hp, TM.cl, TM.nL, (by show 0 < 1000; decide), ?_⟩
    have hp1 : (upd H p (.ins CM dx (putF "letters" (.int (m.k : Int)) []))) p = some (.ins CM dx (putF "letters" (.int (m.k : Int)) [])) := upd_same
    have b1 : But p H (upd H p (.ins CM dx (putF "letters" (.int (m.k : Int)) []))) := But.upd p H _
    have kk1 : Keep (And1 N p) H (upd H p (.ins CM dx (putF "letters" (.int (m.k : Int)) []))) := Keep.upd pN
    generalize upd H p (.ins CM dx (putF "letters" (.int (m.k : Int)) [])) = H1 at *
    have hS := hS.keep kk1
    have hT := hT.keep kk1
    have hE := hE.keep kk1
    have al1 := al'.keep kk1
    -- start
    dsimp only [tSeq, sFld]
    refine tCB_tup (K := K) (te := tVar 2) (q := qS) ?_ hS al1 ?_
    · exact fun Q h => ⟨_, rfl, h⟩
    intro rS H2 s2 hS2
    refine ⟨_, rfl, p, CM, dx, _, rfl, s2 _ _ hp1, TM.cl, TM.nS, (by show 1 < 1000; decide), ?_⟩
    have kk2 : Keep (And1 N p) H1 (upd H2 p (.ins CM dx (putF "start" (.ref rS) (putF "letters" (.int (m.k : Int)) [])))) := (Same.keep s2).trans (Keep.upd pN)
    have kS2 : Keep (And1 N p) H2 (upd H2 p (.ins CM dx (putF "start" (.ref rS) (putF "letters" (.int (m.k : Int)) [])))) := Keep.upd pN
    have b2 : But p H (upd H2 p (.ins CM dx (putF "start" (.ref rS) (putF "letters" (.int (m.k : Int)) [])))) := (b1.trans (Same.but s2)).trans (But.upd p _ _)
    have hp2 : (upd H2 p (.ins CM dx (putF "start" (.ref rS) (putF "letters" (.int (m.k : Int)) [])))) p = some (.ins CM dx (putF "start" (.ref rS) (putF "letters" (.int (m.k : Int)) []))) := upd_same
    have hS := hS2.keep kS2
    generalize upd H2 p (.ins CM dx (putF "start" (.ref rS) (putF "letters" (.int (m.k : Int)) []))) = H3 at *
    have hT := hT.keep kk2
    have hE := hE.keep kk2
    have al3 := al1.keep kk2
    -- steps
    obtain ⟨xT, hxT, lT, eT⟩ := At.sqR hT
    refine or_walk (q := qT) (xs := xT) (fun Q h => ⟨_, rfl, h⟩) hxT fun J wJ D nD => ?_
    have qTe : ∀ {G : Hp}, Same H3 G → G qT = H3 qT := fun s => by
      rcases hxT with h | h <;> rw [h, s _ _ h]
    refine lc_it wJ (fun i G => Bld C Emp (And1 N p) H3 D (rng i fun x => ratT m.n m.n (m.t x)) G) (bld0 nD) (fun i G _ b => qTe b.k.same) ?_ ?_
    · rintro i x G1 G2 hi b ⟨rfl, hx⟩
      rw [lT] at hi
      obtain ⟨x', hx', hd⟩ := eT i hi
      rw [hx'] at hx
      obtain rfl := Option.some.inj hx
      obtain ⟨qx, rfl⟩ := hd.sqV
      have hd2 := b.old nD (fun _ z => z.elim) hd
      have alb := b.alc al3
      obtain ⟨xs2, hxs2, l2, e2⟩ := At.sqR hd2
      refine ⟨rfl, ?_⟩
      refine or_walk (q := qx) (xs := xs2) (fun Q h => ⟨_, rfl, h⟩) hxs2 fun J2 wJ2 D2 nD2 => ?_
      have qxe : ∀ {G : Hp}, Same G2 G → G qx = G2 qx := fun s => by
        rcases hxs2 with h | h <;> rw [h, s _ _ h]
      refine lc_it wJ2 (fun r G => Bld C Emp (And1 (And1 N p) D) G2 D2 (rng r fun r => ratR m.n (m.t i r)) G) (bld0 nD2) (fun i G _ b => qxe b.k.same) ?_ ?_
      · rintro r y G3 G4 hr b4 ⟨rfl, hy⟩
        rw [l2] at hr
        obtain ⟨y', hy', hd'⟩ := e2 r hr
        rw [hy'] at hy
        obtain rfl := Option.some.inj hy
        obtain ⟨qy, rfl⟩ := hd'.sqV
        have hd4 := b4.old nD2 (fun _ z => z.elim) hd'
        have al4 := b4.alc alb
        refine ⟨rfl, ?_⟩
        dsimp only [tYes]
        rw [if_pos rfl]
        refine tCB_tup (K := K) (te := tVar 6) (q := qy) ?_ hd4 al4 ?_
        · exact fun Q h => ⟨_, rfl, h⟩
        intro z G5 s5 hz
        obtain ⟨acc, h1, h2, h3⟩ := b4.step nD2 (Same.keep s5) (fun _ z => z.elim) id hz
        refine ⟨acc, h1, by rw [h2, rng_len]; exact small1000 (by omega), ?_⟩
        rw [rng_succ]
        exact h3
      · rintro G3 b4
        rw [l2] at b4
        have nD2' := alb.fresh nD2
        obtain ⟨ys, hys, ly, ey⟩ := (b4.done nD2').lstE
        refine ⟨D2, ys, rfl, .inl ⟨SqL.of hys, fun r2 nr2 => ?_⟩⟩
        have hz := At.newT (alb.keep b4.k) nr2 ly ey
        obtain ⟨acc, h1, h2, h3⟩ := b.step nD (b4.k.trans (Keep.new nr2)) (fun _ z => z.elim) id hz
        refine ⟨acc, h1, by rw [h2, rng_len]; exact small1000 (by omega), ?_⟩
        rw [rng_succ]
        exact h3
    · rintro G1 b
      rw [lT] at b
      have nD' := al3.fresh nD
      obtain ⟨ys, hys, ly, ey⟩ := (b.done nD').lstE
      refine ⟨D, ys, rfl, .inl ⟨SqL.of hys, fun rT nrT => ?_⟩⟩
      have hT4 := At.newT (al3.keep b.k) nrT ly ey
      have s4 := b.k.same.trans (Same.upd (o := .tup ys) nrT)
      generalize upd G1 rT (.tup ys) = H4 at *
      have kS4 : Keep (And1 N p) H3 H4 := Same.keep s4
      have hS := hS.keep kS4
      have hE := hE.keep kS4
      have al4 := al3.keep kS4
      refine ⟨_, rfl, p, CM, dx, _, rfl, s4 _ _ hp2, TM.cl, TM.nT, (by show 2 < 1000; decide), ?_⟩
      have kk5 : Keep (And1 N p) H4 (upd H4 p (.ins CM dx (putF "steps" (.ref rT) (putF "start" (.ref rS) (putF "letters" (.int (m.k : Int)) []))))) := Keep.upd pN
      have b5 : But p H (upd H4 p (.ins CM dx (putF "steps" (.ref rT) (putF "start" (.ref rS) (putF "letters" (.int (m.k : Int)) []))))) := (b2.trans (Same.but s4)).trans (But.upd p _ _)
      have hp5 : (upd H4 p (.ins CM dx (putF "steps" (.ref rT) (putF "start" (.ref rS) (putF "letters" (.int (m.k : Int)) []))))) p = some (.ins CM dx (putF "steps" (.ref rT) (putF "start" (.ref rS) (putF "letters" (.int (m.k : Int)) [])))) := upd_same
      generalize upd H4 p (.ins CM dx (putF "steps" (.ref rT) (putF "start" (.ref rS) (putF "letters" (.int (m.k : Int)) [])))) = H5 at *
      have hS := hS.keep kk5
      have hT := hT4.keep kk5
      have hE := hE.keep kk5
      have al5 := al4.keep kk5
      -- end
      refine tCB_tup (K := K) (te := tVar 4) (q := qE) ?_ hE al5 ?_
      · exact fun Q h => ⟨_, rfl, h⟩
      intro rE H6 s6 hE6
      refine ⟨_, rfl, p, CM, dx, _, rfl, s6 _ _ hp5, TM.cl, TM.nE, (by show 3 < 1000; decide), ?_⟩
      have kk7 : Keep (And1 N p) H6 (upd H6 p (.ins CM dx (mf0 (m.k : Int) (.ref rS) (.ref rT) (.ref rE)))) := Keep.upd pN
      have b7 : But p H (upd H6 p (.ins CM dx (mf0 (m.k : Int) (.ref rS) (.ref rT) (.ref rE)))) := (b5.trans (Same.but s6)).trans (But.upd p _ _)
      have hp7 : (upd H6 p (.ins CM dx (mf0 (m.k : Int) (.ref rS) (.ref rT) (.ref rE)))) p = some (.ins CM dx (mf0 (m.k : Int) (.ref rS) (.ref rT) (.ref rE))) := upd_same
      show (tIfS _ _ _) _ _ (upd H6 p (.ins CM dx (mf0 (m.k : Int) (.ref rS) (.ref rT) (.ref rE))))
      generalize upd H6 p (.ins CM dx (mf0 (m.k : Int) (.ref rS) (.ref rT) (.ref rE))) = H7 at *
      have hS := (hS.same s6).keep kk7
      have hT := (hT.same s6).keep kk7
      have hE := hE6.keep kk7
      have al7 := (al5.keep (Same.keep (N := Emp) s6)).keep kk7
      refine ⟨_, rfl, p, dx, _, rfl, hp7, mf0_no (by decide +kernel) (by decide +kernel) (by decide +kernel) (by decide +kernel), And1 N p, p, dx, _, _, _, m, rfl, hp7, hS, hT, hE, k1, k4, n1, fun H8 s8 => ⟨true, rfl, ?_⟩⟩
      refine iteF ?_
      refine ⟨(by show 1 ≤ sizeLine; decide), fun L nL => ?_⟩
      have sL : Same H7 (upd H8 L (.lst [.non])) := s8.trans (Same.upd nL)
      refine ⟨_, rfl, L, _, _, rfl, rfl, upd_same, by omega, by omega, ?_, fun ab nab => ?_⟩
      · show 1 * _ ≤ sizeLine
        rw [Nat.one_mul, Int.toNat_natCast]
        exact Nat.le_of_lt (small1000 (by omega))
      generalize upd H8 L (.lst [.non]) = H9 at *
      have hp9 := sL _ _ hp7
      have pab : p ≠ ab := ne_of_none hp9 nab
      have e0 : (List.replicate (((m.k : Nat) : Int).toNat) [V.non]).flatten = List.replicate m.k V.non := by
        rw [Int.toNat_natCast]
        exact flat_one
      have b9 : But p H H9 := b7.trans (Same.but sL)
      have nabH : H ab = none := by
        cases q : H ab with
        | none => rfl
        | some o =>
          have := b9 ab o q (Ne.symm pab)
          rw [nab] at this
          cases this
      have up : ∀ {v : V} {d : Dat}, At C (And1 N p) H7 v d → At C (And1 N ab) (upd (upd H9 ab (.lst (List.replicate (((m.k : Nat) : Int).toNat) [V.non]).flatten)) p (.ins CM dx (mf (m.k : Int) (.ref rS) (.ref rT) (.ref rE) ab))) v d := fun {v d} h => by
        have h1 := (h.same sL).and nab
        have h2 := (h1.keep (Keep.upd (o := .lst (List.replicate (((m.k : Nat) : Int).toNat) [V.non]).flatten) (.inr rfl))).keep (Keep.upd (D := p) (o := .ins CM dx (mf (m.k : Int) (.ref rS) (.ref rT) (.ref rE) ab)) (.inl (.inr rfl)))
        exact h2.less fun b z => z.imp .inl id
      refine ⟨_, rfl, p, CM, dx, _, rfl, by rw [upd_ne pab]; exact hp9, TM.cl, TM.nA, (by show 4 < 1000; decide), ?_⟩
      refine k ab (upd (upd H9 ab (.lst (List.replicate (((m.k : Nat) : Int).toNat) [V.non]).flatten)) p (.ins CM dx (mf (m.k : Int) (.ref rS) (.ref rT) (.ref rE) ab))) (fun c o hc ne => ?_) nabH ⟨⟨dx, _, _, _, upd_same, up hS, up hT, up hE⟩, fun z => ?_, .inr rfl, ⟨List.replicate m.k .non, by rw [upd_ne (Ne.symm pab), upd_same, e0], List.length_replicate, fun x hx => .inl ?_⟩, k1, k4, n1⟩ (by rw [upd_ne (Ne.symm pab), upd_same, e0])
      · rw [upd_ne ne, upd_ne (ne_of_none hc nabH)]
        exact b9 _ _ hc ne
      · rcases z with z | z
        · exact np z
        · exact pab z
      · rw [List.getElem?_replicate, if_pos hx]
end
end RX

set_option Elab.async false
set_option maxRecDepth 100000
namespace RX
open VM VN
open RQ (Hg Bt)
theorem total_range {f : Nat → Rat} {i : Nat} : total f (List.range (i + 1)) = total f (List.range i) + f i := by
  rw [List.range_succ, total_append]
  show _ + (f i + 0) = _
  grind
def preP (Nx : Nat → Int) : Nat → Int
  | 0 => 1
  | i + 1 => preP Nx i * Nx i
theorem preP_ne {Nx : Nat → Int} (h : ∀ x, Nx x ≠ 0) : ∀ i, preP Nx i ≠ 0
  | 0 => by show (1 : Int) ≠ 0; decide
  | i + 1 => Int.mul_ne_zero (preP_ne h i) (h i)
theorem preP_bt {Nx : Nat → Int} {b : Nat} (h : ∀ x, Bt b (Nx x)) : ∀ i, Bt (b * i + 1) (preP Nx i)
  | 0 => by show (1 : Int).natAbs < 2 ^ (b * 0 + 1); rw [Nat.mul_zero]; decide
  | i + 1 => by
    rw [Nat.mul_succ]
    exact ((preP_bt h i).mul (h i)).up (by omega)
/-- a sum step by step, its parts over E times bottoms of their own -/
theorem part_ov {f : Nat → Rat} {Nx : Nat → Int} {E : Int} {S b k : Nat} (hN : ∀ x, Bt b (Nx x)) (hf : ∀ x, x < k → Ov (E * Nx x) S (f x)) : ∀ i, i ≤ k → Ov (E * preP Nx i) (S + (b + 1) * i + 1) (total f (List.range i))
  | 0, _ => Ov.zero _ _
  | i + 1, hi => by
    have a := (part_ov hN hf i (by omega)).lift (hN i)
    have c := (hf i (by omega)).lift (preP_bt hN i)
    have e1 : E * preP Nx i * Nx i = E * preP Nx (i + 1) := Int.mul_assoc _ _ _
    have e2 : E * Nx i * preP Nx i = E * preP Nx (i + 1) := by
      show _ = E * (preP Nx i * Nx i)
      rw [Int.mul_assoc, Int.mul_comm (Nx i)]
    rw [e1] at a
    rw [e2] at c
    have e3 : (b + 1) * (i + 1) = (b + 1) * i + (b + 1) := Nat.mul_succ _ _
    have e4 : (b + 1) * i = b * i + i := by rw [Nat.add_mul, Nat.one_mul]
    rw [total_range]
    exact ((a.up (show S + (b + 1) * i + 1 + b ≤ S + (b + 1) * i + b + 1 by omega)).add (c.up (show S + (b * i + 1) ≤ S + (b + 1) * i + b + 1 by omega))).up (by omega)
end RX

set_option Elab.async false
set_option linter.all false
set_option maxRecDepth 100000
/-! zip of two, each a list or a tuple -/
namespace ZM
open PySem PySem.Spec PyProof.Rows L2
/-- a tuple (true) or a list -/
def SqB (k : Bool) (K : PySem.W.Frag) (H : Hp) (a : Addr) (xs : List V) : Prop := (k = true ∧ SqT K H a xs) ∨ (k = false ∧ SqL K H a xs)
def IterB (k : Bool) (h : Heap) (it a : Addr) (i : Nat) : Prop := (k = true ∧ h.IsTupleIter it a i) ∨ (k = false ∧ h.IsListIter it a i)
def IsB (k : Bool) (h : Heap) (a : Addr) (its : Array Value) : Prop := (k = true ∧ h.IsTuple a its) ∨ (k = false ∧ h.IsList a its)
theorem IterB.at {k : Bool} {h h' : Heap} {it a : Addr} {i : Nat} (x : IterB k h it a i) (e : ∀ o, h.get? it = some o → h'.get? it = some o) : IterB k h' it a i := x.imp (fun ⟨u, y⟩ => ⟨u, y.at e⟩) fun ⟨u, y⟩ => ⟨u, y.at e⟩
theorem IterB.there {k : Bool} {h : Heap} {it a : Addr} {i : Nat} (x : IterB k h it a i) : ∃ o fs, h.get? it = some o ∧ o.data = .fields fs := by
  rcases x with ⟨_, o, e, _, d⟩ | ⟨_, o, e, _, d⟩ <;> exact ⟨o, _, e, d⟩
theorem drawsB {prog : Program} {w : World} {A : Around} (hh : A.handled = none) (k : Bool) (it l : Addr) (hne : l ≠ it) (items : Array Value) :
    Draws prog w A it [it, l] items.size (fun i v => items[i]? = some v) (fun i h => IterB k h it l i ∧ IsB k h l items) := by
  cases k with
  | true =>
    have D := Draws.tuple (prog := prog) (w := w) hh it l hne items
    have e : (fun (i : Nat) (h : Heap) => h.IsTupleIter it l i ∧ h.IsTuple l items) = fun i h => IterB true h it l i ∧ IsB true h l items := by
      funext i h
      simp [IterB, IsB]
    rw [← e]
    exact D
  | false =>
    have D := Draws.list (prog := prog) (w := w) hh it l hne items
    have e : (fun (i : Nat) (h : Heap) => h.IsListIter it l i ∧ h.IsList l items) = fun i h => IterB false h it l i ∧ IsB false h l items := by
      funext i h
      simp [IterB, IsB]
    rw [← e]
    exact D
/-- at its end, or not yet -/
theorem drawsE {prog : Program} {w : World} {A : Around} (hh : A.handled = none) (k : Bool) (it l : Addr) (hne : l ≠ it) (items : Array Value) (i : Nat) {h : Heap} (h1 : IterB k h it l i) (h2 : IsB k h l items) :
    ∃ (n : Nat) (St : Nat → Heap → Prop), Draws prog w A it [it, l] n (fun _ _ => True) St ∧ St i h ∧ i ≤ n ∧ (items.size ≤ i → i = n) := by
  have D := drawsB (prog := prog) (w := w) hh k it l hne items
  by_cases le : items.size ≤ i
  · refine ⟨i, fun j h => j = i ∧ IterB k h it l i ∧ IsB k h l items, ?_, ⟨rfl, h1, h2⟩, Nat.le_refl _, fun _ => rfl⟩
    refine { live := fun j h st => D.live i h st.2, frame := fun j h h' st hk => ⟨st.1, D.frame i h h' st.2 hk⟩, item := fun j s Q E hi st hQ => absurd hi (by rw [st.1]; exact Nat.lt_irrefl _), done := fun s Q E st hE => ?_ }
    have no : items[i]? = none := Array.getElem?_eq_none le
    obtain ⟨_, a, b⟩ := st
    rcases a with ⟨rfl, a⟩ | ⟨rfl, a⟩
    · have b : s.heap.IsTuple l items := by rcases b with ⟨_, b⟩ | ⟨z, _⟩; exact b; cases z
      exact PySem.wpAny_nextOf_tuple_end hh a b no hE
    · have b : s.heap.IsList l items := by rcases b with ⟨z, _⟩ | ⟨_, b⟩; cases z; exact b
      exact PySem.wpAny_nextOf_list_end hh a b no hE
  · refine ⟨items.size, _, ⟨D.live, D.frame, fun j s Q E hi st hQ => D.item j s Q E hi st fun x h' tk _ => hQ x h' tk trivial, D.done⟩, ⟨h1, h2⟩, by omega, fun z => absurd z le⟩
theorem beginsB (k : Bool) (l : Addr) (items : Array Value) : ∃ o, Begins (.ref l) o (fun h => IsB k h l items) ∧ ∀ h it, h.get? it = some o → IterB k h it l 0 := by
  cases k with
  | true =>
    refine ⟨{ cls := .type "tuple_iterator", data := .fields #[.ref l, .int 0 0] }, ?_, fun h it e => .inl ⟨rfl, _, e, rfl, rfl⟩⟩
    have B := begins_tuple l items
    have e : (fun (h : Heap) => h.IsTuple l items) = fun h => IsB true h l items := by
      funext h
      simp [IsB]
    rw [← e]
    exact B
  | false =>
    refine ⟨{ cls := .type "list_iterator", data := .fields #[.ref l, .int 0 0] }, ?_, fun h it e => .inr ⟨rfl, _, e, rfl, rfl⟩⟩
    have B := begins_list l items
    have e : (fun (h : Heap) => h.IsList l items) = fun h => IsB false h l items := by
      funext h
      simp [IsB]
    rw [← e]
    exact B
section
variable {X : Cx} {pins : List (Addr × Obj)} {σ : L2.St} {H : Hp} {s : Shared}
theorem sqB_its {a : Addr} {xs : List V} {k : Bool} (I : Inv X pins σ H s) (h : SqB k X.K H a xs) : ∃ its : List Value, Vals xs its ∧ IsB k s.heap a its.toArray ∧ a < s.heap.objs.size := by
  rcases h with ⟨rfl, h⟩ | ⟨rfl, h⟩
  · obtain ⟨its, r, p, _⟩ := I.tuple h
    obtain ⟨o, ho, _⟩ := id p
    exact ⟨its, r, .inl ⟨rfl, p⟩, Heap.lt_size ho⟩
  · obtain ⟨its, r, p, _⟩ := I.list h
    exact ⟨its, r, .inr ⟨rfl, p.isList⟩, p.lt⟩
theorem sqB_inj {a : Addr} {xs ys : List V} {k : Bool} (I : Inv X pins σ H s) (h : SqB k X.K H a xs) (h' : SqB k X.K H a ys) : xs = ys := by
  rcases h with ⟨rfl, h⟩ | ⟨rfl, h⟩
  · rcases h' with ⟨_, h'⟩ | ⟨z, _⟩
    · exact I.tuple_inj h h'
    · cases z
  · rcases h' with ⟨z, _⟩ | ⟨_, h'⟩
    · cases z
    · exact I.list_inj h h'
end
/-- the two at a and b as they stand at each turn, the items in new pairs -/
def ItzB (k l : Bool) (K : PySem.W.Frag) (a b : Addr) : It :=
  ⟨fun i H => ∃ (xs ys : List V) (x y : V), SqB k K H a xs ∧ SqB l K H b ys ∧ xs[i]? = some x ∧ ys[i]? = some y,
    fun i H v H' => ∃ T x y, v = .ref T ∧ H T = none ∧ H' = upd H T (.tup [x, y]) ∧ (∀ xs, SqB k K H a xs → xs[i]? = some x) ∧ ∀ ys, SqB l K H b ys → ys[i]? = some y,
    fun i H => ∃ xs ys : List V, SqB k K H a xs ∧ SqB l K H b ys ∧ (xs.length ≤ i ∨ ys.length ≤ i)⟩
theorem sepB {z TI TO i1 i2 a b : Addr} (D : ZipApart z TI TO i1 i2 a b) : ZipSep2 z TI TO i1 i2 [i1, a] [i2, b] where
  TIz := D.TIz
  TOz := D.TOz
  TITO := D.TITO
  TIi1 := D.TIi1
  mem1 := by simp
  zf1 := by simp; exact ⟨D.i1z.symm, D.l1z.symm⟩
  Tf1 := by simp; exact ⟨D.TOi1, D.l1TO.symm⟩
  TIi2 := D.TIi2
  mem2 := by simp
  zf2 := by simp; exact ⟨D.i2z.symm, D.l2z.symm⟩
  Tf2 := by simp; exact ⟨D.TOi2, D.l2TO.symm⟩
  sep1_2 := by simp; exact ⟨D.i12, D.l2i1.symm⟩
  sep2_1 := by simp; exact ⟨D.i12.symm, D.l1i2.symm⟩
theorem turn_zipB {P : Program} {w : World} {K : PySem.W.Frag} {elts : List Expr} {kk : Nat} {tpos : Pos} {k l : Bool} {a b z TI TO i1 i2 : Addr} (D : ZipApart z TI TO i1 i2 a b) :
    Turn P w K (.Tuple elts kk tpos) (ItzB k l K a b) [z, TI, TO, i1, i2] z (fun i h => IsZip h z TI TO .none ∧ IsPair h TI (.ref i1) (.ref i2) ∧ (∃ x y, IsPair h TO x y) ∧ IterB k h i1 a i ∧ IterB l h i2 b i) where
  mem := by simp
  obj := fun i h st c hc => by
    obtain ⟨hz, hTI, ⟨x, y, hTO⟩, j1, j2⟩ := st
    obtain ⟨o1, f1, e1, d1⟩ := j1.there
    obtain ⟨o2, f2, e2, d2⟩ := j2.there
    have e' : c = z ∨ c = TI ∨ c = TO ∨ c = i1 ∨ c = i2 := by simpa using hc
    rcases e' with q | q | q | q | q
    · rw [q]; exact ⟨_, hz, fun v q => nomatch q⟩
    · rw [q]; exact ⟨_, hTI, fun v q => nomatch q⟩
    · rw [q]; exact ⟨_, hTO, fun v q => nomatch q⟩
    · rw [q]; exact ⟨o1, e1, fun v q => by rw [d1] at q; cases q⟩
    · rw [q]; exact ⟨o2, e2, fun v q => by rw [d2] at q; cases q⟩
  keep := fun i h h' st k => by
    obtain ⟨hz, hTI, ⟨x, y, hTO⟩, h1, h2⟩ := st
    exact ⟨k z (by simp) _ hz, k TI (by simp) _ hTI, ⟨x, y, k TO (by simp) _ hTO⟩, h1.at fun o q => k i1 (by simp) o q, h2.at fun o q => k i2 (by simp) o q⟩
  item := by
    intro X hP hw hK hc i pins s σ H E I hf st hg
    subst hP hw hK
    obtain ⟨hz, hTI, ⟨x0, y0, hTO⟩, h1, h2⟩ := st
    obtain ⟨xs, ys, x, y, hqx, hqy, hx, hy⟩ := hg
    obtain ⟨its, rv, p, _⟩ := sqB_its I hqx
    obtain ⟨its2, rv2, p2, _⟩ := sqB_its I hqy
    obtain ⟨u, hu, ru⟩ := rv.get hx
    obtain ⟨u2, hu2, ru2⟩ := rv2.get hy
    have hzl : z < s.heap.objs.size := Heap.lt_size hz
    have hnd : X.A.in1.handled = none := I.ok.hd hc
    have lt1 : i < its.toArray.size := by rw [List.size_toArray]; exact (List.getElem?_eq_some_iff.mp hu).1
    have lt2 : i < its2.toArray.size := by rw [List.size_toArray]; exact (List.getElem?_eq_some_iff.mp hu2).1
    refine wpAny_pyNext_zipD2_item (sepB D) (drawsB hnd k i1 a D.l1i1 its.toArray) (drawsB hnd l i2 b D.l2i2 its2.toArray) hz hTI hTO ⟨h1, p⟩ ⟨h2, p2⟩ lt1 lt2 fun v1 v2 h' tk pv1 pv2 z' TO' g1 g2 hT hsz hk => ?_
    have e1 : v1 = u := by
      have pv1 : its.toArray[i]? = some v1 := pv1
      rw [List.getElem?_toArray, hu] at pv1
      exact (Option.some.inj pv1).symm
    have e2 : v2 = u2 := by
      have pv2 : its2.toArray[i]? = some v2 := pv2
      rw [List.getElem?_toArray, hu2] at pv2
      exact (Option.some.inj pv2).symm
    subst e1 e2
    refine ⟨_, rfl, wpAny_letOwnedTupleGo_zip (s := { s with heap := h', toks := tk }) z' fun h'' z'' sb => ?_⟩
    have hT2 : h''.get? s.heap.objs.size = some { cls := .type "tuple", data := .seq #[v1, v2] } := (sb.2 _ (Nat.ne_of_gt hzl)).trans hT
    have new : ObjOk X.prog X.w (upd H s.heap.objs.size (.tup [x, y])) h'' s.heap.objs.size (.tup [x, y]) :=
      ⟨by show 2 ≤ sizeLine; decide, [v1, v2], .cons ru (.cons ru2 .nil), ⟨_, hT2, rfl, _, rfl⟩⟩
    have I1 : Inv X pins σ (upd H s.heap.objs.size (.tup [x, y])) { s with heap := h'', toks := tk } :=
      I.turnedNew (t' := tk) (ch := [z, TI, TO, i1, i2]) (fun c o hb q => (sb.2 c (fun q' => hb (by simp [q']))).trans (hk c o (fun q' => hb (by simp [q'])) (fun q' => hb (by simp [q'])) (fun q' => hb (by simp [q'])) (fun q' => hb (by simp [q'])) q)) hf (Nat.le_refl _) new
    refine ⟨.ref s.heap.objs.size, _, I1, rfl, ⟨_, x, y, rfl, I.hok.fresh (Nat.le_refl _), rfl, fun l hl => by rw [sqB_inj I hl hqx]; exact hx, fun l hl => by rw [sqB_inj I hl hqy]; exact hy⟩, ⟨z'', ?_, ⟨v1, v2, ?_⟩, ?_, ?_⟩, fun c hcm => ?_⟩
    · exact (sb.2 _ D.TIz).trans (hk _ _ D.TIz D.TITO D.TIi1 D.TIi2 hTI)
    · exact (sb.2 _ D.TOz).trans TO'
    · exact g1.1.at fun o q => (sb.2 _ D.i1z).trans q
    · exact g2.1.at fun o q => (sb.2 _ D.i2z).trans q
    · have hlt : c < s.heap.objs.size := by
        have e' : c = z ∨ c = TI ∨ c = TO ∨ c = i1 ∨ c = i2 := by simpa using hcm
        rcases e' with q | q | q | q | q
        · rw [q]; exact hzl
        · rw [q]; exact Heap.lt_size hTI
        · rw [q]; exact Heap.lt_size hTO
        · rw [q]; obtain ⟨_, _, e1, _⟩ := h1.there; exact Heap.lt_size e1
        · rw [q]; obtain ⟨_, _, e2, _⟩ := h2.there; exact Heap.lt_size e2
      rw [upd_ne (Nat.ne_of_lt hlt)]
      exact (hf c hcm).1
  done := by
    intro X hP hw hK hc i pins s σ H E I hf st hg
    subst hP hw hK
    obtain ⟨hz, hTI, ⟨x0, y0, hTO⟩, h1, h2⟩ := st
    obtain ⟨xs, ys, hqx, hqy, hend⟩ := hg
    obtain ⟨its, rv, p, _⟩ := sqB_its I hqx
    obtain ⟨its2, rv2, p2, _⟩ := sqB_its I hqy
    have l1 := rv.length
    have l2 := rv2.length
    have hnd : X.A.in1.handled = none := I.ok.hd hc
    obtain ⟨n1, S1, D1, t1, le1, en1⟩ := drawsE (prog := X.prog) (w := X.w) hnd k i1 a D.l1i1 its.toArray i h1 p
    obtain ⟨n2, S2, D2, t2, le2, en2⟩ := drawsE (prog := X.prog) (w := X.w) hnd l i2 b D.l2i2 its2.toArray i h2 p2
    have he : i = n1 ∨ i = n2 := by
      rcases hend with q | q
      · exact .inl (en1 (by rw [List.size_toArray]; omega))
      · exact .inr (en2 (by rw [List.size_toArray]; omega))
    exact wpAny_pyNext_zipD2_end (sepB D) D1 D2 hz hTI hTO t1 t2 le1 le2 he fun h' tk hk => ⟨rfl, I.turnedL (t' := tk) (ch := [z, TI, TO, i1, i2]) (fun c o hb q =>
      hk c o (fun q' => hb (by simp [q'])) (fun q' => hb (by simp [q'])) (fun q' => hb (by simp [q'])) (fun q' => hb (by simp [q'])) q) hf⟩
  self := fun A i s Q E st h => wpAny_pyIter_zip st.1 h
def iZipM (K : PySem.W.Frag) (ta : TA) : TI := fun σ H R => ta σ H fun vs H1 => ∃ k l a b xs ys, vs = [.ref a, .ref b] ∧ SqB k K H1 a xs ∧ SqB l K H1 b ys ∧ R (ItzB k l K a b) H1
theorem pi_zipM {X : Cx} {e e2 : Expr} {ta : TA} {p pos tpos : Pos} {elts : List Expr} {kk : Nat} (hg : Gl X "zip") (hm : X.mg "zip" = none) (ha : PA X [e, e2] ta)
    (hs : starEach [e, e2] X.env = (false, eval e X.env) :: starEach [e2] X.env := by rfl) (hpl : (backTo pos (starEach [e2] X.env)).any (·.1) = false := by rfl) :
    PI X (.Tuple elts kk tpos) (.Call (.Name "zip" p) [e, e2] [] pos) (iZipM X.K ta) := by
  refine ⟨fun pins s σ H R I h => ?_⟩
  refine Call_ (ld_blt I hg hm PyProof.Rows.boot_zip (PyProof.Rows.callWith_type1 (thn (ha.run pos pins s σ H _ I h) fun us s1 ⟨vs, H1, I1, r1, q1⟩ => ?_) hs hpl))
  obtain ⟨k, l, a, b, xs, ys, ex, hqx, hqy, q⟩ := q1
  subst ex
  cases r1 with
  | cons r rr =>
    cases rr with
    | cons r' rr =>
      cases rr
      cases r
      cases r'
      obtain ⟨its, rv, p1, la⟩ := sqB_its I1 hqx
      obtain ⟨its2, rv2, p2, lb⟩ := sqB_its I1 hqy
      obtain ⟨o1, B1, j1⟩ := beginsB k a its.toArray
      obtain ⟨o2, B2, j2⟩ := beginsB l b its2.toArray
      refine zip_begins2 B1 B2 p1 p2 fun h' hz hTI hTO g1 g2 hsz hk => wpAny_pyIter_zip hz ?_
      have I2 : Inv X pins σ H1 { s1 with heap := h' } := I1.kept (t' := s1.toks) hk
      refine ⟨s1.heap.objs.size + 4, [s1.heap.objs.size + 4, s1.heap.objs.size + 2, s1.heap.objs.size + 3, s1.heap.objs.size, s1.heap.objs.size + 1], _, _, H1, rfl, I2, turn_zipB (PySem.W.ktu_apart s1.heap.objs.size a b la lb), ⟨hz, hTI, ⟨_, _, hTO⟩, j1 _ _ g1, j2 _ _ g2⟩, fun c hcm => ?_, q⟩
      have e' : c = s1.heap.objs.size + 4 ∨ c = s1.heap.objs.size + 2 ∨ c = s1.heap.objs.size + 3 ∨ c = s1.heap.objs.size ∨ c = s1.heap.objs.size + 1 := by simpa using hcm
      have hle : s1.heap.objs.size ≤ c := by
        rcases e' with z | z | z | z | z
        · rw [z]; exact Nat.le_add_right _ _
        · rw [z]; exact Nat.le_add_right _ _
        · rw [z]; exact Nat.le_add_right _ _
        · rw [z]; exact Nat.le_refl _
        · rw [z]; exact Nat.le_add_right _ _
      exact I1.fpOk hle (I1.hok.fresh hle)
/-- within a comprehension -/
theorem pi_zipMK {X : Cx} {K : PySem.W.Frag} (hK : X.K = K) {e e2 : Expr} {ta : TA} {p pos tpos : Pos} {elts : List Expr} {kk : Nat} (hg : Gl X "zip") (hm : X.mg "zip" = none) (ha : PA X [e, e2] ta)
    (hs : starEach [e, e2] X.env = (false, eval e X.env) :: starEach [e2] X.env := by rfl) (hpl : (backTo pos (starEach [e2] X.env)).any (·.1) = false := by rfl) :
    PI X (.Tuple elts kk tpos) (.Call (.Name "zip" p) [e, e2] [] pos) (iZipM K ta) := by
  subst hK
  exact pi_zipM hg hm ha hs hpl
theorem walk_zipM {K : PySem.W.Frag} {k l : Bool} {a b : Addr} {xs ys : List V} {n : Nat} (hn : n = min xs.length ys.length) : Walk (ItzB k l K a b) n (fun H => SqB k K H a xs ∧ SqB l K H b ys) (YPair (fun i => xs[i]?) (fun i => ys[i]?)) := by
  subst hn
  refine ⟨fun i _ hi q => ?_, fun _ q => ⟨xs, ys, q.1, q.2, by omega⟩, fun i H v H' _ q y => ?_⟩
  · have h1 : i < xs.length := by omega
    have h2 : i < ys.length := by omega
    exact ⟨xs, ys, xs[i], ys[i], q.1, q.2, by simp [h1], by simp [h2]⟩
  · obtain ⟨T, x, z, h1, h2, h3, h4, h5⟩ := y
    exact ⟨T, x, z, h1, h2, h3, h4 xs q.1, h5 ys q.2⟩
end ZM

set_option Elab.async false
set_option maxRecDepth 100000
set_option exponentiation.threshold 100000
namespace RX
open PySem L2 LX VA VM VN
open RQ (Hg Bt)
abbrev sSop : Stmt := topS 29
theorem scSop : FnScope ["row", "column", "top", "bottom", "one", "other", "more", "below", "common"] ["row", "column"] (defScope sSop) := ⟨rfl, rfl, rfl, by decide +kernel, rfl, by decide +kernel, by decide +kernel⟩
/-- numbers over one bottom -/
structure RowB (n b t : Nat) (u : Nat → Rat) : Prop where
  ex : ∃ M : Int, M ≠ 0 ∧ Bt b M ∧ ∀ j, j < n → Ov M t (u j)
def spSp (C : Addr) : Sp := fun vs H Q _ => ∃ (N : Addr → Prop) (p r : Addr) (n : Nat) (u v : Nat → Rat), vs = [.ref p, .ref r] ∧ At C N H (.ref p) (ratR n u) ∧ At C N H (.ref r) (sqR n v) ∧ Alc N H ∧ n ≤ 1000 ∧ RowB n 6000 7000 u ∧ RowB n 6000 7000 v ∧
  ∀ (q : Addr) (H' : Hp), Same H H' → H q = none → At C N H' (.ref q) (.rat (dot u v n)) → Q (.ref q) H'
theorem at_rat {C : Addr} {N : Addr → Prop} {H : Hp} {p : Addr} {q : Rat} (h : At C N H (.ref p) (.rat q)) : RatAt C H p q.num (q.den : Int) := by
  obtain ⟨_, e, h⟩ := h.ratV
  cases e
  exact h
theorem at_pr {C : Addr} {N : Addr → Prop} {H : Hp} {p : Addr} {q : Rat} (h : At C N H (.ref p) (prD q)) : PrQ H p q := by
  obtain ⟨_, e, h, _⟩ := h.pair
  cases e
  exact h
/-- the running sum: its bottom divides that of all -/
structure SumI (u v : Nat → Rat) (i : Nat) (ML t b : Int) : Prop where
  eq : (t : Rat) = dot u v i * (b : Rat)
  b0 : 0 < b
  dv : b ∣ ML
theorem sumI_bt {u v : Nat → Rat} {i c n : Nat} {M L t b : Int} (h : SumI u v i (M * L) t b) (m0 : M ≠ 0) (l0 : L ≠ 0) (ho : Ov (M * L) c (dot u v i)) (hb : Bt n (M * L)) : Bt c t ∧ Bt n b := by
  obtain ⟨d, hd⟩ := h.dv
  obtain ⟨z, ez, bz⟩ := ho
  have ml : M * L ≠ 0 := Int.mul_ne_zero m0 l0
  have d0 : d ≠ 0 := fun e => ml (by rw [hd, e, Int.mul_zero])
  have tz : t * d = z := by
    have e : ((t * d : Int) : Rat) = (z : Rat) := by
      rw [ez, hd, Rat.intCast_mul, Rat.intCast_mul, h.eq]
      grind
    exact_mod_cast e
  constructor
  · refine bz.le ?_
    rw [← tz, Int.natAbs_mul]
    exact Nat.le_mul_of_pos_right _ (Int.natAbs_pos.mpr d0)
  · refine hb.le ?_
    rw [hd, Int.natAbs_mul]
    exact Nat.le_mul_of_pos_right _ (Int.natAbs_pos.mpr d0)
section
variable {P : Program} {w : World} {K : PySem.W.Frag} {mg : Str → Option Value} {base : Heap}
theorem ok_sp (B : PL.Big P base) {f fI C : Addr} {fd dI : FuncData} (F : Fun K "sum_of_products" "sum_of_products" sSop f fd) (TP : TxtP mg) (TR : TxtR K mg C) (M : Mk K C fI) (GI : FnOk P w K mg base CX0 33 fI dI ["self", "top", "bottom"] (spInitB C)) (bI : Binds K dI ["self", "top", "bottom"] []) :
    FnOk P w K mg base CX0 35 f fd ["row", "column"] (spSp C) := by
  refine F.ok scSop (fun vs H Q E h => ?_) (fun cdv A outer s H vs Q E hr34 h => ?_)
  · obtain ⟨N, p, r, n, u, v, rfl, _⟩ := h
    rfl
  · obtain ⟨N, p, r, n, u, v, rfl, hp, hq, al, n1, zu, zv, kk⟩ := h
    have hr32 : Room 32 _ := hr34.mono (by decide)
    obtain ⟨xs, hx, lx, ex⟩ := At.tupR hp
    obtain ⟨ys, hy, ly, ey⟩ := At.sqR hq
    obtain ⟨M', m0, bM, ou⟩ := zu.ex
    obtain ⟨L', l0, bL, ov⟩ := zv.ex
    have ml0 : M' * L' ≠ 0 := Int.mul_ne_zero m0 l0
    have bML : Bt 12000 (M' * L') := (bM.mul bL).up (by decide)
    have hov : ∀ i, i ≤ n → Ov (M' * L') 15000 (dot u v i) := fun i hi => (VN.half_ov ou ov hi).up (by omega)
    obtain ⟨l2, hl2⟩ : ∃ l2 : Bool, ∀ {H' : Hp}, Same H H' → ZM.SqB l2 K H' r ys := by
      rcases hy with hy | hy
      · exact ⟨true, fun s => .inl ⟨rfl, SqT.of (s _ _ hy)⟩⟩
      · exact ⟨false, fun s => .inr ⟨rfl, SqL.of (s _ _ hy)⟩⟩
    have sq : ∀ {H' : Hp} {a : Addr} {zs : List V}, H' a = some (.tup zs) → ZM.SqB true K H' a zs := fun h => .inl ⟨rfl, SqT.of h⟩
    refine ⟨_, pss_cons (ps_asg (pe_tup (pa_cons pe_int (pa_cons pe_int pa_nil))) (pg_tup rfl (pgs_cons (pg_name (i := 2) scSop.nd rfl (.inl rfl)) (pgs_cons (pg_name (i := 3) scSop.nd rfl (.inl rfl)) pgs_nil))))
      (pss_cons (ps_for PassesOwn.never rfl (ZM.pi_zipM (by rfl) TP.zip (pa_cons (pv 0) (pa_cons (pv 1) pa_nil))) (pg_tup rfl (pgs_cons (pg_name (i := 4) scSop.nd rfl (.inl rfl)) (pgs_cons (pg_name (i := 5) scSop.nd rfl (.inl rfl)) pgs_nil)))
        (pss_cons (ps_set (i := 6) scSop.nd rfl (.inl rfl) (pe_op RQ.op_mulH (pe_fld (pv 4) rfl) (pe_fld (pv 5) rfl)))
        (pss_one (ps_if (pt_truth (pv 6) (by intro _; rfl))
          (pss_cons (ps_set (i := 7) scSop.nd rfl (.inl rfl) (pe_op RQ.op_mulH (pe_fld (pv 4) rfl) (pe_fld (pv 5) rfl)))
          (pss_cons (ps_set (i := 8) scSop.nd rfl (.inl rfl) (pe_callBfun cr_lcm (by rfl) TP.lcm (pa_cons (pv 3) (pa_cons (pv 7) pa_nil))))
          (pss_cons (ps_set (i := 2) scSop.nd rfl (.inl rfl) (pe_op op_add (pe_op RQ.op_mulH (pv 2) (pe_op (PL.op_fdivP B hr32 ⟨_, _, rfl, rfl, rfl, rfl, rfl⟩) (pv 8) (pv 3))) (pe_op RQ.op_mulH (pv 6) (pe_op (PL.op_fdivP B hr32 ⟨_, _, rfl, rfl, rfl, rfl, rfl⟩) (pv 8) (pv 7)))))
          (pss_one (ps_set (i := 3) scSop.nd rfl (.inl rfl) (pv 8))))))
          pss_nil))))
      (pss_one (ps_ret (pe_make M GI hr34 rfl TR.mgC bI .nil pass0 (pa_cons (pv 2) (pa_cons (pv 3) pa_nil)))))), ?_⟩
    refine ⟨(by show 2 ≤ sizeLine; decide), fun T0 nT0 => ⟨T0, _, rfl, SqT.of upd_same, rfl, _, _, rfl, _, _, rfl, rfl, ?_⟩⟩
    have s0 : Same H (upd H T0 (.tup [.int 0, .int 1])) := Same.upd nT0
    generalize upd H T0 (.tup [.int 0, .int 1]) = H0 at *
    refine ⟨_, rfl, _, rfl, true, l2, p, r, _, _, rfl, sq (s0 _ _ hx), hl2 s0, for_it (ZM.walk_zipM (K := K) (k := true) (l := l2) (a := p) (b := r) (xs := xs) (ys := ys) (n := n) (by rw [lx, ly, Nat.min_self])) (fun i σ G => ∃ t b o4 o5 o6 o7 o8, σ = [some (.ref p), some (.ref r), some (.int t), some (.int b), o4, o5, o6, o7, o8] ∧ Same H G ∧ SumI u v i (M' * L') t b)
      ⟨0, 1, none, none, none, none, none, rfl, s0, by show ((0 : Int) : Rat) = 0 * _; rw [Rat.zero_mul]; rfl, by decide, Int.one_dvd _⟩ (fun i σ G _ h => by obtain ⟨_, _, _, _, _, _, _, _, s, _⟩ := h; exact ⟨sq (s _ _ hx), hl2 s⟩) ?_ ?_⟩
    · rintro i w σ G1 G2 hi ⟨t, b, o4, o5, o6, o7, o8, rfl, s1, si⟩ ⟨T', x, x', rfl, nT, rfl, g1, g2⟩
      obtain ⟨x0, hx0, dx0⟩ := ex i hi
      obtain ⟨y0, hy0, dy0⟩ := ey i hi
      have g1 : xs[i]? = some x := g1
      have g2 : ys[i]? = some x' := g2
      rw [hx0] at g1
      obtain rfl := Option.some.inj g1
      rw [hy0] at g2
      obtain rfl := Option.some.inj g2
      obtain ⟨a, rfl, _⟩ := dx0.ratV
      obtain ⟨c, rfl, _⟩ := dy0.ratV
      have sT : Same G1 (upd G1 T' (.tup [.ref a, .ref c])) := Same.upd nT
      obtain ⟨d1, ha⟩ := at_rat ((dx0.same s1).same sT)
      obtain ⟨d2, hc⟩ := at_rat ((dy0.same s1).same sT)
      refine ⟨T', _, rfl, SqT.of upd_same, rfl, _, _, rfl, _, _, rfl, rfl, ?_⟩
      generalize upd G1 T' (.tup [.ref a, .ref c]) = G2 at *
      have du := (ou i hi).den m0
      have dv := (ov i hi).den l0
      have bu : Bt 6000 ((u i).den : Int) := bM.le (by
        obtain ⟨z, hz⟩ := du.1
        rw [hz, Int.natAbs_mul]
        exact Nat.le_mul_of_pos_right _ (Int.natAbs_pos.mpr fun e => m0 (by rw [hz, e, Int.mul_zero])))
      have bv : Bt 6000 ((v i).den : Int) := bL.le (by
        obtain ⟨z, hz⟩ := dv.1
        rw [hz, Int.natAbs_mul]
        exact Nat.le_mul_of_pos_right _ (Int.natAbs_pos.mpr fun e => l0 (by rw [hz, e, Int.mul_zero])))
      obtain ⟨bt, bb⟩ := sumI_bt si m0 l0 (hov i (by omega)) bML
      refine ⟨_, rfl, a, C, d1, _, _, rfl, ha, TR.cl, TR.nT, rf_top _ _, _, rfl, c, C, d2, _, _, rfl, hc, TR.cl, TR.nT, rf_top _ _, _, _, rfl, rfl, ⟨Hg.bt du.2 (by decide), Hg.bt dv.2 (by decide)⟩, ?_⟩
      refine ⟨_, rfl, _, rfl, ?_⟩
      by_cases z0 : (u i).num * (v i).num = 0
      · rw [show (((u i).num * (v i).num != 0) : Bool) = false by rw [z0]; rfl]
        refine iteF ⟨t, b, _, _, _, _, _, rfl, s1.trans sT, ?_, si.b0, si.dv⟩
        have e0 : u i * v i = 0 := by
          rcases Int.mul_eq_zero.mp z0 with e | e
          · rw [RQ.num0.mp e, Rat.zero_mul]
          · rw [RQ.num0.mp e, Rat.mul_zero]
        show (t : Rat) = (dot u v i + u i * v i) * (b : Rat)
        rw [e0, Rat.add_zero]
        exact si.eq
      · rw [show (((u i).num * (v i).num != 0) : Bool) = true from bne_iff_ne.mpr z0]
        refine iteT ?_
        refine ⟨_, rfl, a, C, d1, _, _, rfl, ha, TR.cl, TR.nB, rf_bot _ _, _, rfl, c, C, d2, _, _, rfl, hc, TR.cl, TR.nB, rf_bot _ _, _, _, rfl, rfl, ⟨Hg.bt bu (by decide), Hg.bt bv (by decide)⟩, ?_⟩
        have p1 : 0 < (u i).den := (u i).den_pos
        have p2 : 0 < (v i).den := (v i).den_pos
        have bp : (0 : Int) < ((u i).den : Int) * ((v i).den : Int) := Int.mul_pos (by omega) (by omega)
        have dvm : ((u i).den : Int) * ((v i).den : Int) ∣ M' * L' := Int.mul_dvd_mul du.1 dv.1
        have blw : Bt 12000 (((u i).den : Int) * ((v i).den : Int)) := (bu.mul bv).up (by decide)
        refine ⟨_, rfl, _, rfl, _, _, rfl, Nat.lt_of_lt_of_le bb (Nat.pow_le_pow_right (by decide) (by decide)), Nat.lt_of_lt_of_le blw (Nat.pow_le_pow_right (by decide) (by decide)), ?_⟩
        have hL1 := RT.lcm_l b (((u i).den : Int) * ((v i).den : Int))
        have hL2 := RT.lcm_r b (((u i).den : Int) * ((v i).den : Int))
        have hLp := RT.lcm_pos si.b0 bp
        have hLd : RT.lcmI b (((u i).den : Int) * ((v i).den : Int)) ∣ M' * L' := by
          unfold RT.lcmI
          refine Int.natAbs_dvd_natAbs.mp ?_
          rw [Int.natAbs_natCast]
          exact Nat.lcm_dvd (Int.natAbs_dvd_natAbs.mpr si.dv) (Int.natAbs_dvd_natAbs.mpr dvm)
        generalize RT.lcmI b (((u i).den : Int) * ((v i).den : Int)) = L at *
        have bL' : Bt 12000 L := bML.le (by
          obtain ⟨z, hz⟩ := hLd
          rw [hz, Int.natAbs_mul]
          exact Nat.le_mul_of_pos_right _ (Int.natAbs_pos.mpr fun e => ml0 (by rw [hz, e, Int.mul_zero])))
        have b0 : b ≠ 0 := by have := si.b0; omega
        have w0 : ((u i).den : Int) * ((v i).den : Int) ≠ 0 := by omega
        have c1 := RT.fdiv_of_dvd b0 hL1
        have c2 := RT.fdiv_of_dvd w0 hL2
        have q1 : Bt 12000 (L.fdiv b) := fdiv_bt b0 hL1 bL'
        have q2 : Bt 12000 (L.fdiv (((u i).den : Int) * ((v i).den : Int))) := fdiv_bt w0 hL2 bL'
        refine ⟨_, rfl, _, rfl, _, rfl, _, _, rfl, rfl, b0, _, _, rfl, rfl, ⟨Hg.bt bt (by decide), Hg.bt q1 (by decide)⟩, _, rfl, _, rfl, _, rfl, _, _, rfl, rfl, w0, _, _, rfl, rfl, ⟨Hg.bt (du.2.mul dv.2) (by decide), Hg.bt q2 (by decide)⟩, _, _, rfl, rfl, ?_⟩
        refine ⟨_, rfl, _, _, _, _, _, _, _, rfl, s1.trans sT, ?_, hLp, hLd⟩
        show ((t * L.fdiv b + (u i).num * (v i).num * L.fdiv (((u i).den : Int) * ((v i).den : Int)) : Int) : Rat) = (dot u v i + u i * v i) * (L : Rat)
        have e1 : ((L.fdiv b : Int) : Rat) * (b : Rat) = (L : Rat) := by rw [← Rat.intCast_mul, c1]
        have e2 : ((L.fdiv (((u i).den : Int) * ((v i).den : Int)) : Int) : Rat) * ((((u i).den : Int) : Rat) * (((v i).den : Int) : Rat)) = (L : Rat) := by rw [← Rat.intCast_mul, ← Rat.intCast_mul, c2]
        rw [Rat.intCast_add, Rat.intCast_mul, Rat.intCast_mul, Rat.intCast_mul, si.eq, RQ.nd (u i), RQ.nd (v i)]
        grind
    · rintro σ G ⟨t, b, o4, o5, o6, o7, o8, rfl, s1, si⟩
      refine ⟨_, rfl, _, rfl, fun x dx nx nd _ => ?_⟩
      have b0 : b ≠ 0 := by have := si.b0; omega
      refine make4 b0 nx nd fun H4 s4 hR => ⟨rfl, ?_⟩
      obtain ⟨e1, e2⟩ := RQ.low b0 si.eq
      rw [e1, e2] at hR
      exact kk x H4 (s1.trans s4) (s1.free nx) (.rat hR (al.fresh (s1.free nx)))
end
end RX


set_option Elab.async false
set_option linter.all false
set_option maxRecDepth 100000
/-! == and != of tuples whose items have an own ==: with either answer. -/
namespace EB
open PySem PySem.SeqAt
open AutoSeq1 (wpAny_loadPart')
open MeetsSeq MeetsSeq2 MeetsSeq3 SeqRoads2
section
variable {prog : Program} {w : World} {A : Around} {R : Result → Shared → Prop}
/-- item by item, each pair has its answer, and I goes on -/
def Turns (prog : Program) (w : World) (A : Around) (E : Value → Shared → Prop) (us vs : Array Value) (ans : Nat → Bool) (I : Shared → Prop) : Prop :=
  ∀ j (h1 : j < us.size) (h2 : j < vs.size) s, I s → wpAny (model prog w) A.in1 (eqBool us[j] vs[j]) (fun r s' => r = ans j ∧ I s') E s
def all2 (us vs : Array Value) (ans : Nat → Bool) : Bool := (List.range (min us.size vs.size)).all ans && us.size == vs.size
theorem tuple_ne2 (p q : Addr) (us vs : Array Value) (k k2 : Nat) (od od2 : Option Addr) (ss ss2 : Array (Option Value)) (ans : Nat → Bool) (I : Shared → Prop) (tn : Turns prog w A (fun e s' => R (.error e) s') us vs ans I)
    (fin : ∀ s, I s → R (.ok (.ret (.bool (!all2 us vs ans)))) s) {s : Shared} (gp : s.heap.get? p = some { cls := .type "tuple", dict := od, data := .seq us k, slots := ss }) (gq : s.heap.get? q = some { cls := .type "tuple", dict := od2, data := .seq vs k2, slots := ss2 }) (h : I s) :
    wpAny (model prog w) A.in1 (Builtin.«tuple.__ne__» ⟨[.ref p, .ref q], []⟩) (GQ.FinOf prog w A R) (fun e s' => R (.error e) s') s := by
  have ft := AutoSeq1.sub_tuple_tuple
  have zl : (us.toList.zip vs.toList).length = min us.size vs.size := by simp
  have start := h
  obtain ⟨hh, gs, dr, tok, ost⟩ := s
  wp_walk using wpAny_loadPart' gp, wpAny_loadPart' gq, wpAny_forIn_list _ (fun rest b s' => b.1 = none ∧ I s' ∧ ∃ i, rest = (us.toList.zip vs.toList).drop i ∧ ((List.range (min us.size vs.size)).take i).all ans = true) _
  case turn =>
    rintro ⟨y, x⟩ rest b s' ⟨bn, hI, i, hz, hall⟩
    have lt : i < (us.toList.zip vs.toList).length := by
      rcases Nat.lt_or_ge i (us.toList.zip vs.toList).length with hlt | hge
      · exact hlt
      · rw [List.drop_of_length_le hge] at hz; cases hz
    have mn : i < min us.size vs.size := by rw [← zl]; exact lt
    have l1 : i < us.size := Nat.lt_of_lt_of_le mn (Nat.min_le_left _ _)
    have l2 : i < vs.size := Nat.lt_of_lt_of_le mn (Nat.min_le_right _ _)
    rw [List.drop_eq_getElem_cons lt] at hz
    injection hz with first more
    have ey : y = us[i] := by have z := congrArg Prod.fst first; simpa using z
    have ex : x = vs[i] := by have z := congrArg Prod.snd first; simpa using z
    subst ey ex
    have tk1 : (List.range (min us.size vs.size)).take (i + 1) = (List.range (min us.size vs.size)).take i ++ [i] := by
      rw [List.take_add_one, List.getElem?_range mn]
      rfl
    refine wpAny_bind (wpAny_mono (tn i l1 l2 s' hI) (fun r s2 q2 => ?_) fun _ _ z => z)
    obtain ⟨er, hI2⟩ := q2
    subst er
    cases ca : ans i with
    | true =>
      wp_walk
      exact ⟨rfl, hI2, i + 1, more, by rw [tk1, List.all_append, hall]; simp [ca]⟩
    | false =>
      have none : all2 us vs ans = false := by
        unfold all2
        have : (List.range (min us.size vs.size)).all ans = false := by
          rw [List.all_eq_false]
          exact ⟨i, List.mem_range.mpr mn, by rw [ca]; decide⟩
        rw [this]
        rfl
      have hR := fin s2 hI2
      rw [none] at hR
      wp_walk
      exact hR
  case fin =>
    rintro ⟨b1, b2⟩ s' ⟨bn, hI, i, hz, hall⟩
    simp only at bn
    subst bn
    have ge : min us.size vs.size ≤ i := by
      rcases Nat.lt_or_ge i (us.toList.zip vs.toList).length with hlt | hge
      · rw [List.drop_eq_getElem_cons hlt] at hz; cases hz
      · rw [← zl]; exact hge
    rw [List.take_of_length_le (by rw [List.length_range]; exact ge)] at hall
    have hR := fin s' hI
    unfold all2 at hR
    rw [hall] at hR
    wp_walk
    simpa [Builtin.Tuple.tupleCompareSizes, bne] using hR
  case h =>
    exact ⟨rfl, start, 0, rfl, rfl⟩
theorem tuple_eq2 (p q : Addr) (us vs : Array Value) (k k2 : Nat) (od od2 : Option Addr) (ss ss2 : Array (Option Value)) (ans : Nat → Bool) (I : Shared → Prop) (tn : Turns prog w A (fun e s' => R (.error e) s') us vs ans I)
    (fin : ∀ s, I s → R (.ok (.ret (.bool (all2 us vs ans)))) s) {s : Shared} (gp : s.heap.get? p = some { cls := .type "tuple", dict := od, data := .seq us k, slots := ss }) (gq : s.heap.get? q = some { cls := .type "tuple", dict := od2, data := .seq vs k2, slots := ss2 }) (h : I s) :
    wpAny (model prog w) A.in1 (Builtin.«tuple.__eq__» ⟨[.ref p, .ref q], []⟩) (GQ.FinOf prog w A R) (fun e s' => R (.error e) s') s := by
  have ft := AutoSeq1.sub_tuple_tuple
  have zl : (us.toList.zip vs.toList).length = min us.size vs.size := by simp
  have start := h
  obtain ⟨hh, gs, dr, tok, ost⟩ := s
  wp_walk using wpAny_loadPart' gp, wpAny_loadPart' gq, wpAny_forIn_list _ (fun rest b s' => b.1 = none ∧ I s' ∧ ∃ i, rest = (us.toList.zip vs.toList).drop i ∧ ((List.range (min us.size vs.size)).take i).all ans = true) _
  case turn =>
    rintro ⟨y, x⟩ rest b s' ⟨bn, hI, i, hz, hall⟩
    have lt : i < (us.toList.zip vs.toList).length := by
      rcases Nat.lt_or_ge i (us.toList.zip vs.toList).length with hlt | hge
      · exact hlt
      · rw [List.drop_of_length_le hge] at hz; cases hz
    have mn : i < min us.size vs.size := by rw [← zl]; exact lt
    have l1 : i < us.size := Nat.lt_of_lt_of_le mn (Nat.min_le_left _ _)
    have l2 : i < vs.size := Nat.lt_of_lt_of_le mn (Nat.min_le_right _ _)
    rw [List.drop_eq_getElem_cons lt] at hz
    injection hz with first more
    have ey : y = us[i] := by have z := congrArg Prod.fst first; simpa using z
    have ex : x = vs[i] := by have z := congrArg Prod.snd first; simpa using z
    subst ey ex
    have tk1 : (List.range (min us.size vs.size)).take (i + 1) = (List.range (min us.size vs.size)).take i ++ [i] := by
      rw [List.take_add_one, List.getElem?_range mn]
      rfl
    refine wpAny_bind (wpAny_mono (tn i l1 l2 s' hI) (fun r s2 q2 => ?_) fun _ _ z => z)
    obtain ⟨er, hI2⟩ := q2
    subst er
    cases ca : ans i with
    | true =>
      wp_walk
      exact ⟨rfl, hI2, i + 1, more, by rw [tk1, List.all_append, hall]; simp [ca]⟩
    | false =>
      have none : all2 us vs ans = false := by
        unfold all2
        have : (List.range (min us.size vs.size)).all ans = false := by
          rw [List.all_eq_false]
          exact ⟨i, List.mem_range.mpr mn, by rw [ca]; decide⟩
        rw [this]
        rfl
      have hR := fin s2 hI2
      rw [none] at hR
      wp_walk
      exact hR
  case fin =>
    rintro ⟨b1, b2⟩ s' ⟨bn, hI, i, hz, hall⟩
    simp only at bn
    subst bn
    have ge : min us.size vs.size ≤ i := by
      rcases Nat.lt_or_ge i (us.toList.zip vs.toList).length with hlt | hge
      · rw [List.drop_eq_getElem_cons hlt] at hz; cases hz
      · rw [← zl]; exact hge
    rw [List.take_of_length_le (by rw [List.length_range]; exact ge)] at hall
    have hR := fin s' hI
    unfold all2 at hR
    rw [hall] at hR
    wp_walk
    simpa [Builtin.Tuple.tupleCompareSizes, bne] using hR
  case h =>
    exact ⟨rfl, start, 0, rfl, rfl⟩
end
section
variable {prog : Program} {w : World} {A : Around} {E : Value → Shared → Prop} {s : Shared}
theorem rc_ne2 {p q : Addr} {us vs : Array Value} {ans : Nat → Bool} {Q : Value → Shared → Prop} (hu : A.units < cLine) (I : Shared → Prop) (gp : s.heap.IsTuple p us) (gq : s.heap.IsTuple q vs) (tn : Turns prog w A E us vs ans I)
    (fin : ∀ s, I s → Q (.bool (!all2 us vs ans)) s) (h : I s) : wpAny (model prog w) A (richCompare .NotEq (.ref p) (.ref q)) Q E s := by
  obtain ⟨⟨c1, d1, t1, s1⟩, a1, b1, k, e1⟩ := id gp
  obtain ⟨⟨c2, d2, t2, s2⟩, a2, b2, k2, e2⟩ := id gq
  simp only at b1 e1 b2 e2
  subst b1 e1 b2 e2
  refine wpAny_richCompare_same_room (op := .NotEq) ⟨_, a1, rfl⟩ ⟨_, a2, rfl⟩ F.slot_tuple_ne (GQ.call_here F.slot_tuple_ne ⟨_, a1, rfl⟩ F.entry_tuple_ne (F.args_tuple_ne_2 _ _) ?_) hu
  exact tuple_ne2 (R := wants (fun v s' => v ≠ .notImplemented ∧ Q v s') E) p q us vs k k2 d1 d2 s1 s2 ans I tn (fun s' z => ⟨(fun x => nomatch x), fin s' z⟩) a1 a2 h
theorem rc_eq2 {p q : Addr} {us vs : Array Value} {ans : Nat → Bool} {Q : Value → Shared → Prop} (hu : A.units < cLine) (I : Shared → Prop) (gp : s.heap.IsTuple p us) (gq : s.heap.IsTuple q vs) (tn : Turns prog w A E us vs ans I)
    (fin : ∀ s, I s → Q (.bool (all2 us vs ans)) s) (h : I s) : wpAny (model prog w) A (richCompare .Eq (.ref p) (.ref q)) Q E s := by
  obtain ⟨⟨c1, d1, t1, s1⟩, a1, b1, k, e1⟩ := id gp
  obtain ⟨⟨c2, d2, t2, s2⟩, a2, b2, k2, e2⟩ := id gq
  simp only at b1 e1 b2 e2
  subst b1 e1 b2 e2
  refine wpAny_richCompare_same_room (op := .Eq) ⟨_, a1, rfl⟩ ⟨_, a2, rfl⟩ F.slot_tuple_eq (GQ.call_here F.slot_tuple_eq ⟨_, a1, rfl⟩ F.entry_tuple_eq (F.args_tuple_eq_2 _ _) ?_) hu
  exact tuple_eq2 (R := wants (fun v s' => v ≠ .notImplemented ∧ Q v s') E) p q us vs k k2 d1 d2 s1 s2 ans I tn (fun s' z => ⟨(fun x => nomatch x), fin s' z⟩) a1 a2 h
end
open L2
/-- == answers b for what D says, and only makes objects -/
abbrev EqvB := V → V → Hp → Bool → Prop
def EqB (X : Cx) (n : Nat) (D : EqvB) : Prop :=
  ∀ (A : Around) (pins : List (Addr × Obj)) (s : Shared) (σ : L2.St) (H : Hp) (x y : V) (u v : Value) (b : Bool), Sub X n A → Inv X pins σ H s → RelV x u → RelV y v → D x y H b →
    wpAny (model X.prog X.w) A (eqBool u v) (fun r s' => r = b ∧ ∃ H', Inv X pins σ H' s' ∧ Ext H H') X.xe s
/-- two instances of the class at C with an own ==, whose answer R tells -/
def spEqB (R : Addr → Addr → Hp → Bool → Prop) : Sp := fun vs H Q _ => ∃ a b r, vs = [.ref a, .ref b] ∧ R a b H r ∧ ∀ H', Ext H H' → Q (.bl r) H'
def DInsB (C : Addr) (R : Addr → Addr → Hp → Bool → Prop) : EqvB := fun x y H r => ∃ a b dx dy fs gs, x = .ref a ∧ y = .ref b ∧ H a = some (.ins C dx fs) ∧ H b = some (.ins C dy gs) ∧ R a b H r
section
variable {X : Cx} {n : Nat}
theorem eqB_ins {CX : CXT} {C f : Addr} {fd : FuncData} {ps : List Str} {R : Addr → Addr → Hp → Bool → Prop} {E : XK} (F : FnOk X.prog X.w X.K X.mg X.base CX n f fd ps (spEqB R)) (own : ∀ a H r, R a a H r → r = true)
    (sp : PySem.W.findIn X.K (.ref C) "__eq__" = some (some (.ref f))) (isf : PySem.W.isFn X.K (.ref f) = true) (bi : Binds X.K fd ps []) (pass : Passes CX X E) : EqB X n (DInsB C R) := by
  intro A pins s σ H x y u v b sb I rx ry d
  obtain ⟨a, c, dx, dy, fs, gs, rfl, rfl, ha, hc, hR⟩ := d
  cases rx
  cases ry
  by_cases same : a = c
  · subst same
    have := own _ _ _ hR
    subst this
    exact SeqAt.EqAt.same (A := A) (s := s) (.ref a) X.prog X.w X.xe _ ⟨rfl, H, I, Ext.rfl'⟩
  · refine GQ.eqBool_refG same ?_
    obtain ⟨_, J, _⟩ := ins_get I.hok ha
    obtain ⟨_, J2, _⟩ := ins_get I.hok hc
    obtain ⟨_, J, _⟩ := J.look
    obtain ⟨_, J2, _⟩ := J2.look
    obtain ⟨_, fr⟩ := I.fr
    refine PySem.W.cmp_K (op := .Eq) (tb := .ref C) sb.room.units0 fr I.ok.mod.kin J J2.type (by simp [PySem.W.notFirst]) sp isf ?_
    have told : spEqB R [.ref a, .ref c] H (fun v H' => v = .bl b ∧ Ext H H') E := ⟨a, c, b, rfl, hR, fun H' e => ⟨rfl, e⟩⟩
    have env : Env0 X.prog X.w X.K X.mg X.base A X.stack s H := by
      have e := I.env0
      exact ⟨by rw [sb.fr]; exact e.frames, e.mod, e.bs, e.bsz, e.funs, e.frf, e.hok, e.bare⟩
    have size := F.len _ _ _ _ told
    have rels : Vals [V.ref a, V.ref c] [Value.ref a, Value.ref c] := .cons rfl (.cons rfl .nil)
    have bound := bi s [.ref a, .ref c] I.kIn (by simpa using size)
    refine wpAny_call (codeAny_mono (F.run A X.stack s H ⟨[.ref a, .ref c], []⟩ [.ref a, .ref c] [.ref a, .ref c] _ E sb.room env (by simpa using bound) rels told) fun r s' fin => ?_)
    match r, fin with
    | .error e, fin => exact pass pins σ H s e s' I fin
    | .ok (.ret z), fin =>
      obtain ⟨v, H', I', rv, ev, ex⟩ := I.after fin
      subst ev
      cases rv
      exact ⟨b, rfl, rfl, H', I', ex⟩
    | .ok .next, fin => exact False.elim fin
    | .ok .brk, fin => exact False.elim fin
    | .ok .cont, fin => exact False.elim fin
/-- tuples, item by item -/
structure PrsB (D : EqvB) (xs ys : List V) (H : Hp) (ans : Nat → Bool) : Prop where
  d : ∀ (i : Nat) x y, xs[i]? = some x → ys[i]? = some y → D x y H (ans i)
def MonB (D : EqvB) : Prop := ∀ x y H H' b, Ext H H' → D x y H b → D x y H' b
def allB (xs ys : List V) (ans : Nat → Bool) : Bool := (List.range (min xs.length ys.length)).all ans && xs.length == ys.length
def rNeB (K : PySem.W.Frag) (D : EqvB) : R2 := fun x y H Q => ∃ a b xs ys ans, x = .ref a ∧ y = .ref b ∧ SqT K H a xs ∧ SqT K H b ys ∧ PrsB D xs ys H ans ∧ ∀ H', Ext H H' → Q (.bl (!allB xs ys ans)) H'
def rEqB (K : PySem.W.Frag) (D : EqvB) : R2 := fun x y H Q => ∃ a b xs ys ans, x = .ref a ∧ y = .ref b ∧ SqT K H a xs ∧ SqT K H b ys ∧ PrsB D xs ys H ans ∧ ∀ H', Ext H H' → Q (.bl (allB xs ys ans)) H'
theorem turnsB {D : EqvB} (mon : MonB D) (h : EqB X n D) {A : Around} (sb : Sub X (n + 1) A) {pins : List (Addr × Obj)} {σ : L2.St} {H : Hp} {xs ys : List V} {us vs : List Value} {ans : Nat → Bool} (p : PrsB D xs ys H ans) (r : Vals xs us) (r2 : Vals ys vs) :
    Turns X.prog X.w A X.xe us.toArray vs.toArray ans (fun s' => ∃ H', Inv X pins σ H' s' ∧ Ext H H') := by
  rintro j h1 h2 s ⟨H1, I1, e1⟩
  have l1 : j < us.length := by simpa using h1
  have l2 : j < vs.length := by simpa using h2
  have g1 : us[j]? = some us.toArray[j] := by rw [List.getElem?_eq_getElem l1] <;> simp
  have g2 : vs[j]? = some vs.toArray[j] := by rw [List.getElem?_eq_getElem l2] <;> simp
  have m1 : j < xs.length := by rw [r.length]; exact l1
  have m2 : j < ys.length := by rw [r2.length]; exact l2
  obtain ⟨u, hu, ru⟩ := r.get (List.getElem?_eq_getElem m1)
  obtain ⟨v, hv, rv⟩ := r2.get (List.getElem?_eq_getElem m2)
  rw [g1] at hu
  rw [g2] at hv
  rw [Option.some.inj hu, Option.some.inj hv]
  refine wpAny_mono (h A.in1 pins s σ H1 _ _ u v (ans j) sb.in1 I1 ru rv (mon _ _ _ _ _ e1 (p.d j _ _ (List.getElem?_eq_getElem m1) (List.getElem?_eq_getElem m2)))) (fun r s2 q => ?_) fun _ _ z => z
  obtain ⟨er, H2, I2, e2⟩ := q
  exact ⟨er, H2, I2, e1.trans e2⟩
theorem all2_allB {xs ys : List V} {us vs : List Value} {ans : Nat → Bool} (r : Vals xs us) (r2 : Vals ys vs) : all2 us.toArray vs.toArray ans = allB xs ys ans := by
  unfold all2 allB
  rw [List.size_toArray, List.size_toArray, r.length, r2.length]
theorem op_neB {D : EqvB} (mon : MonB D) (h : EqB X n D) (room : Room (n + 1) X.A) : OpR X (compareOp .NotEq) (rNeB X.K D) := by
  intro pins s σ H x y u v Q I rx ry told
  obtain ⟨a, b, xs, ys, ans, rfl, rfl, ta, tb, p, q⟩ := told
  cases rx
  cases ry
  obtain ⟨us, r, e, _⟩ := I.tuple ta
  obtain ⟨vs, r2, e2, _⟩ := I.tuple tb
  have sb : Sub X (n + 1) X.A := ⟨room, rfl⟩
  show wpAny (model X.prog X.w) X.A (richCompare .NotEq (.ref a) (.ref b)) (EP X pins σ Q) X.xe s
  refine rc_ne2 sb.room.units0 (fun s' => ∃ H', Inv X pins σ H' s' ∧ Ext H H') e e2 (turnsB mon h sb p r r2) (fun s' ⟨H', I', ex⟩ => ?_) ⟨H, I, Ext.rfl'⟩
  rw [all2_allB r r2]
  exact ⟨.bl _, H', I', rfl, q H' ex⟩
theorem op_eqB {D : EqvB} (mon : MonB D) (h : EqB X n D) (room : Room (n + 1) X.A) : OpR X (compareOp .Eq) (rEqB X.K D) := by
  intro pins s σ H x y u v Q I rx ry told
  obtain ⟨a, b, xs, ys, ans, rfl, rfl, ta, tb, p, q⟩ := told
  cases rx
  cases ry
  obtain ⟨us, r, e, _⟩ := I.tuple ta
  obtain ⟨vs, r2, e2, _⟩ := I.tuple tb
  have sb : Sub X (n + 1) X.A := ⟨room, rfl⟩
  show wpAny (model X.prog X.w) X.A (richCompare .Eq (.ref a) (.ref b)) (EP X pins σ Q) X.xe s
  refine rc_eq2 sb.room.units0 (fun s' => ∃ H', Inv X pins σ H' s' ∧ Ext H H') e e2 (turnsB mon h sb p r r2) (fun s' ⟨H', I', ex⟩ => ?_) ⟨H, I, Ext.rfl'⟩
  rw [all2_allB r r2]
  exact ⟨.bl _, H', I', rfl, q H' ex⟩
end
end EB

set_option Elab.async false
set_option maxRecDepth 100000
namespace RX
open PySem L2 LX VA VM VN EB
open RQ (Hg Bt)
abbrev sRowLed : Stmt := topS 33
theorem scRl : FnScope ["row", "table", "width", "at", "line"] ["row", "table", "width"] (defScope sRowLed) := ⟨rfl, rfl, rfl, by decide +kernel, rfl, by decide +kernel, by decide +kernel⟩
abbrev outRl0 : Scope := { kind := .function, names := [(".0", .local), ("at", .cell), ("sum_of_products", .globalImplicit), ("row", .cell), ("table", .cell)], isGenerator := false, isCoroutine := false }
abbrev sSameWay : Stmt := topS 32
theorem scIw : FnScope ["step", "its", "table", "width", "row", "line"] ["step", "its", "table", "width"] (defScope sSameWay) := ⟨rfl, rfl, rfl, by decide +kernel, rfl, by decide +kernel, by decide +kernel⟩
abbrev sIsCarry : Stmt := topS 31
theorem scIc : FnScope ["one", "other", "table", "step", "its", "line"] ["one", "other", "table"] (defScope sIsCarry) := ⟨rfl, rfl, rfl, by decide +kernel, rfl, by decide +kernel, by decide +kernel⟩
abbrev sEq : Stmt := inClass (topS 8) 5
theorem scEq : FnScope ["self", "other"] ["self", "other"] (defScope sEq) := ⟨rfl, rfl, rfl, by decide +kernel, rfl, by decide +kernel, by decide +kernel⟩
noncomputable def tru (p : Prop) : Bool := @decide p (Classical.propDecidable p)
theorem tru_t {p : Prop} (h : p) : tru p = true := @decide_eq_true p (Classical.propDecidable p) h
theorem tru_f {p : Prop} (h : ¬ p) : tru p = false := @decide_eq_false p (Classical.propDecidable p) h
theorem tru_iff {p : Prop} : tru p = true ↔ p := @decide_eq_true_iff p (Classical.propDecidable p)
theorem tru_congr {p q : Prop} (h : p ↔ q) : tru p = tru q := by
  by_cases z : p
  · rw [tru_t z, tru_t (h.mp z)]
  · rw [tru_f z, tru_f fun y => z (h.mpr y)]
/-- == of two Ratios -/
def RRat (C : Addr) : Addr → Addr → Hp → Bool → Prop := fun a b H r => ∃ p q : Rat, RatAt C H a p.num (p.den : Int) ∧ RatAt C H b q.num (q.den : Int) ∧ r = tru (p = q)
theorem rrat_own {C : Addr} : ∀ a H r, RRat C a a H r → r = true := fun a H r h => by
  obtain ⟨p, q, ⟨d1, h1⟩, ⟨d2, h2⟩, rfl⟩ := h
  rw [h1] at h2
  have e := Option.some.inj h2
  have e2 : rf p.num (p.den : Int) = rf q.num (q.den : Int) := by injection e
  have t1 : (rf p.num (p.den : Int)).lookup ("top" : Str) = (rf q.num (q.den : Int)).lookup ("top" : Str) := by rw [e2]
  have t2 : (rf p.num (p.den : Int)).lookup ("bottom" : Str) = (rf q.num (q.den : Int)).lookup ("bottom" : Str) := by rw [e2]
  rw [rf_top, rf_top] at t1
  rw [rf_bot, rf_bot] at t2
  have n1 : p.num = q.num := by injection t1 with t1; injection t1
  have n2 : (p.den : Int) = (q.den : Int) := by injection t2 with t2; injection t2
  exact tru_t (Rat.ext n1 (by omega))
abbrev DRat (C : Addr) : EqvB := DInsB C (RRat C)
theorem drat_mon {C : Addr} : MonB (DRat C) := fun x y H H' b e h => by
  obtain ⟨a, c, dx, dy, fs, gs, rfl, rfl, ha, hc, p, q, ⟨d1, h1⟩, ⟨d2, h2⟩, rfl⟩ := h
  exact ⟨a, c, dx, dy, fs, gs, rfl, rfl, e _ _ ha, e _ _ hc, p, q, ⟨d1, e _ _ h1⟩, ⟨d2, e _ _ h2⟩, rfl⟩
theorem drat {C : Addr} {N N' : Addr → Prop} {H : Hp} {x y : V} {p q : Rat} (h : At C N H x (.rat p)) (k : At C N' H y (.rat q)) : DRat C x y H (tru (p = q)) := by
  obtain ⟨a, rfl, d1, h1⟩ := h.ratV
  obtain ⟨b, rfl, d2, h2⟩ := k.ratV
  exact ⟨a, b, d1, d2, _, _, rfl, rfl, h1, h2, p, q, ⟨d1, h1⟩, ⟨d2, h2⟩, rfl⟩
theorem all_tru {w : Nat} {f g : Nat → Rat} : (List.range w).all (fun j => tru (f j = g j)) = tru (∀ j, j < w → f j = g j) := by
  by_cases z : ∀ j, j < w → f j = g j
  · rw [tru_t z]
    exact List.all_eq_true.mpr fun j hj => tru_t (z j (List.mem_range.mp hj))
  · rw [tru_f z]
    refine Bool.eq_false_iff.mpr fun e => z fun j hj => ?_
    exact tru_iff.mp (List.all_eq_true.mp e j (List.mem_range.mpr hj))
theorem rows_ans {C : Addr} {K : PySem.W.Frag} {N N' : Addr → Prop} {H : Hp} {a b : Addr} {w : Nat} {f g : Nat → Rat} (h : At C N H (.ref a) (ratR w f)) (k : At C N' H (.ref b) (ratR w g)) :
    ∃ xs ys, SqT K H a xs ∧ SqT K H b ys ∧ PrsB (DRat C) xs ys H (fun j => tru (f j = g j)) ∧ allB xs ys (fun j => tru (f j = g j)) = tru (∀ j, j < w → f j = g j) := by
  obtain ⟨xs, hx, lx, ex⟩ := At.tupR h
  obtain ⟨ys, hy, ly, ey⟩ := At.tupR k
  refine ⟨xs, ys, SqT.of hx, SqT.of hy, ⟨fun i x y h1 h2 => ?_⟩, ?_⟩
  · have hi : i < w := by rw [← lx]; exact (List.getElem?_eq_some_iff.mp h1).1
    obtain ⟨x', hx', hd⟩ := ex i hi
    obtain ⟨y', hy', he⟩ := ey i hi
    rw [hx'] at h1
    rw [hy'] at h2
    obtain rfl := Option.some.inj h1
    obtain rfl := Option.some.inj h2
    exact drat hd he
  · unfold allB
    rw [lx, ly, Nat.min_self, all_tru]
    have : (w == w) = true := beq_self_eq_true w
    rw [this, Bool.and_true]
theorem rows_ne {C : Addr} {K : PySem.W.Frag} {N N' : Addr → Prop} {H : Hp} {a b : Addr} {w : Nat} {f g : Nat → Rat} {Q : VK} (h : At C N H (.ref a) (ratR w f)) (k : At C N' H (.ref b) (ratR w g)) (z : ∀ H', Same H H' → Q (.bl (!tru (∀ j, j < w → f j = g j))) H') : rNeB K (DRat C) (.ref a) (.ref b) H Q := by
  obtain ⟨xs, ys, h1, h2, h3, h4⟩ := rows_ans (K := K) h k
  exact ⟨a, b, xs, ys, _, rfl, rfl, h1, h2, h3, fun H' s => by rw [h4]; exact z H' s⟩
theorem rows_eq {C : Addr} {K : PySem.W.Frag} {N N' : Addr → Prop} {H : Hp} {a b : Addr} {w : Nat} {f g : Nat → Rat} {Q : VK} (h : At C N H (.ref a) (ratR w f)) (k : At C N' H (.ref b) (ratR w g)) (z : ∀ H', Same H H' → Q (.bl (tru (∀ j, j < w → f j = g j))) H') : rEqB K (DRat C) (.ref a) (.ref b) H Q := by
  obtain ⟨xs, ys, h1, h2, h3, h4⟩ := rows_ans (K := K) h k
  exact ⟨a, b, xs, ys, _, rfl, rfl, h1, h2, h3, fun H' s => by rw [h4]; exact z H' s⟩
/-- a row led through a table -/
def led (h : Nat) (u : Nat → Rat) (U : Nat → Nat → Rat) : Nat → Rat := fun j => dot u (fun i => U i j) h
/-- the numbers of a table over one bottom -/
structure TabB (h n b t : Nat) (U : Nat → Nat → Rat) : Prop where
  ex : ∃ M : Int, M ≠ 0 ∧ Bt b M ∧ ∀ i, i < h → ∀ j, j < n → Ov M t (U i j)
theorem TabB.row {h n b t i : Nat} {U : Nat → Nat → Rat} (z : TabB h n b t U) (hi : i < h) : RowB n b t (U i) := let ⟨M, m0, bM, o⟩ := z.ex; ⟨M, m0, bM, fun j hj => o i hi j hj⟩
theorem TabB.col {h n b t j : Nat} {U : Nat → Nat → Rat} (z : TabB h n b t U) (hj : j < n) : RowB h b t fun i => U i j := let ⟨M, m0, bM, o⟩ := z.ex; ⟨M, m0, bM, fun i hi => o i hi j hj⟩
structure MacB (m : Mc) : Prop where
  s : RowB m.n 6000 7000 m.s
  e : RowB m.n 6000 7000 m.e
  t : ∀ x, x < m.k → TabB m.n m.n 6000 7000 (m.t x)
def Carry (m1 m2 : Mc) (h w : Nat) (U : Nat → Nat → Rat) : Prop :=
  h = m1.n ∧ (∀ i, i < h → w = m2.n) ∧ (∀ j, j < m2.n → led h m1.s U j = m2.s j) ∧ (∀ i, i < h → dot (U i) m2.e m2.n = m1.e i) ∧ ∀ x, x < m1.k → ∀ i, i < h → ∀ j, j < m2.n → led h (m1.t x i) U j = led m2.n (U i) (m2.t x) j
def spRl (C : Addr) : Sp := fun vs H Q _ => ∃ (N : Addr → Prop) (p q : Addr) (h w w2 : Nat) (u : Nat → Rat) (U : Nat → Nat → Rat), vs = [.ref p, .ref q, .int (w : Int)] ∧ At C N H (.ref p) (ratR h u) ∧ At C N H (.ref q) (ratT h w2 U) ∧ Alc N H ∧ h ≤ 1000 ∧ w ≤ 1000 ∧ (∀ i, i < h → w2 = w) ∧ RowB h 6000 7000 u ∧ TabB h w2 6000 7000 U ∧
  ∀ (r : Addr) (H' : Hp), Same H H' → At C N H' (.ref r) (ratR w (led h u U)) → Q (.ref r) H'
def spIw (C : Addr) : Sp := fun vs H Q _ => ∃ (N : Addr → Prop) (p q r : Addr) (h w w2 : Nat) (T1 T2 U : Nat → Nat → Rat), vs = [.ref p, .ref q, .ref r, .int (w : Int)] ∧ At C N H (.ref p) (ratT h h T1) ∧ At C N H (.ref q) (ratT w w T2) ∧ At C N H (.ref r) (ratT h w2 U) ∧ Alc N H ∧ h ≤ 1000 ∧ w ≤ 1000 ∧ (∀ i, i < h → w2 = w) ∧ TabB h h 6000 7000 T1 ∧ TabB w w 6000 7000 T2 ∧ TabB h w2 6000 7000 U ∧
  ∀ (H' : Hp), Same H H' → Q (.bl (tru (∀ i, i < h → ∀ j, j < w → led h (T1 i) U j = led w (U i) T2 j))) H'
def spIc (C CM : Addr) : Sp := fun vs H Q _ => ∃ (N : Addr → Prop) (p1 a1 p2 a2 q : Addr) (m1 m2 : Mc) (h w : Nat) (U : Nat → Nat → Rat), vs = [.ref p1, .ref p2, .ref q] ∧ MachAt C CM N H p1 a1 m1 ∧ MachAt C CM N H p2 a2 m2 ∧ At C N H (.ref q) (ratT h w U) ∧ Alc N H ∧ h ≤ 1000 ∧ w ≤ 1000 ∧ m1.k = m2.k ∧ MacB m1 ∧ MacB m2 ∧ TabB h w 6000 7000 U ∧
  ∀ (H' : Hp), Same H H' → Q (.bl (tru (Carry m1 m2 h w U))) H'
section
variable {P : Program} {w : World} {K : PySem.W.Frag} {mg : Str → Option Value} {base : Heap}
theorem dintR (i j : Int) : decide (V.int i = V.int j) = decide (i = j) := by
  by_cases h : i = j
  · rw [h, decide_eq_true rfl, decide_eq_true rfl]
  · rw [decide_eq_false h, decide_eq_false fun z => h (by injection z)]
theorem ok_eqR {f C : Addr} {fd : FuncData} (F : Fun K "__eq__" "Ratio.__eq__" sEq f fd) (TR : TxtR K mg C) (ic : C8.InsC K C) (mi : mg "isinstance" = none) : FnOk P w K mg base CX0 1 f fd ["self", "other"] (spEqB (RRat C)) := by
  refine F.ok scEq (fun vs H Q E h => ?_) (fun cdv A outer s H vs Q E hr h => ?_)
  · obtain ⟨a, b, r, rfl, _⟩ := h
    rfl
  · obtain ⟨a, b, r, rfl, ⟨p, q, ⟨dx, hp⟩, ⟨dy, hq⟩, rfl⟩, kk⟩ := h
    refine ⟨_, pss_one (ps_ret (pe_and (pe_callB call_isi (by rfl) mi (by decide +kernel) (pa_cons (pv 1) (pa_cons (pe_glob (v := .ref C) (by rfl) TR.mgC rfl) pa_nil)))
      (pe_and (pe_cmpR op_eq (pe_fld (pv 0) rfl) (pe_fld (pv 1) rfl) (nomark _)) (pe_one (pe_cmpR op_eq (pe_fld (pv 0) rfl) (pe_fld (pv 1) rfl) (nomark _)))))), ?_⟩
    have k := kk H (Same.refl H)
    have et : tru (p = q) = (decide (p.num = q.num) && decide ((p.den : Int) = (q.den : Int))) := by
      by_cases z : p = q
      · rw [tru_t z, z, decide_eq_true rfl, decide_eq_true rfl]
        rfl
      · rw [tru_f z]
        by_cases z1 : p.num = q.num
        · rw [decide_eq_false (p := (p.den : Int) = (q.den : Int)) fun z2 => z (Rat.ext z1 (by omega)), Bool.and_false]
        · rw [decide_eq_false z1, Bool.false_and]
    rw [et] at k
    refine ⟨_, rfl, _, _, _, _, true, rfl, .own C, .base (TyOf.ins hq ic.cl ic.ha ic.hn ic.htk ic.hm), ic.me, true, rfl, iteT ?_⟩
    refine ⟨_, rfl, a, C, dx, _, _, rfl, hp, TR.cl, TR.nT, rf_top _ _, _, rfl, b, C, dy, _, _, rfl, hq, TR.cl, TR.nT, rf_top _ _, rfl, _, rfl, ?_⟩
    rw [dintR]
    refine ite2 (fun z => ?_) (fun z => ?_)
    · refine ⟨_, rfl, a, C, dx, _, _, rfl, hp, TR.cl, TR.nB, rf_bot _ _, _, rfl, b, C, dy, _, _, rfl, hq, TR.cl, TR.nB, rf_bot _ _, rfl, ?_⟩
      show Q (.bl (decide (V.int (p.den : Int) = V.int (q.den : Int)))) H
      rw [dintR]
      rw [z, Bool.true_and] at k
      exact k
    · rw [Bool.eq_false_iff.mpr z, Bool.false_and] at k
      exact k
theorem ok_rl {f fS C : Addr} {fd dS : FuncData} (F : Fun K "_row_led" "_row_led" sRowLed f fd) (TP : TxtP mg) (T : TxtL mg) (cSp : CalN P w K mg base "sum_of_products" 35 ["row", "column"] (spSp C) fS dS) : FnOk P w K mg base CX0 36 f fd ["row", "table", "width"] (spRl C) := by
  refine F.ok scRl (fun vs H Q E h => ?_) (fun cdv A outer s H vs Q E hr h => ?_)
  · obtain ⟨N, p, q, h, w, w2, u, U, rfl, _⟩ := h
    rfl
  · obtain ⟨N, p, q, h, w, w2, u, U, rfl, hp, hq, al, h1, w1, e2, zu, zU, kk⟩ := h
    have hr35 : Room 35 _ := hr
    obtain ⟨xs, hx, lx, ex⟩ := At.tupR hq
    refine ⟨_, pss_one (ps_ret (pe_callTy (T := "tuple") call_tuple_of (by rfl) TP.tup (by decide +kernel) (pa_cons (pe_lc (own := [("at", 3)]) (g := gName 3) (tt := tYes) rfl scRl.nd (pi_range1 (by rfl) T.range (pa_cons (pv 2) pa_nil)) (blkOk_by (N := ["row", "table", "width", "at", "line"]) (sc := (defScope sRowLed)) (by decide +kernel)) (fun _ _ _ _ _ => (pg_name (i := 3) scRl.nd rfl (.inr rfl))) (fun _ _ _ _ _ => pts_nil) (fun _ _ _ _ _ => (pe_call cSp.G hr35 rfl cSp.m cSp.kp cSp.b .nil pass0 (pa_cons (pv 0) (pa_cons (pe_lc (own := [("line", 4)]) (g := gName 4) (tt := tYes) rfl scRl.nd (pi_tupK (K := K) rfl (pv 1)) (blkOk_by (N := ["row", "table", "width", "at", "line"]) (sc := outRl0) (by decide +kernel)) (fun _ _ _ _ _ => (pg_name (i := 4) scRl.nd rfl (.inl rfl))) (fun _ _ _ _ _ => pts_nil) (fun _ _ _ _ _ => (pe_ix (show IxR _ (rIxT K) from ix_tup) (pv 4) (pv 3) (fun _ _ => rfl)))) pa_nil))))) pa_nil))), ?_⟩
    refine ⟨_, rfl, _, rfl, by omega, by omega, fun D nD => ?_⟩
    have nND := al.fresh nD
    refine lc_it (walk_range (lo := 0) (n := w)) (fun i G => Bld C Emp N H D (rng i fun j => .rat (led h u U j)) G) (bld0 nD) (fun _ _ _ _ => trivial) ?_ ?_
    · rintro j x G1 G2 hj bd ⟨rfl, rfl⟩
      have alG := bd.alc al
      have hx1 := bd.k.same _ _ hx
      refine ⟨rfl, _, rfl, _, rfl, q, rfl, ⟨_, SqT.of hx1⟩, fun D2 nD2 => ?_⟩
      have nN2 := alG.fresh nD2
      refine lc_it (walk_tup (K := K) (a := q) (xs := xs)) (fun i G => Bld C Emp (And1 N D) G2 D2 (rng i fun i => .rat (U i j)) G) (bld0 nD2) (fun i G _ b => SqT.of (b.k.same _ _ hx1)) ?_ ?_
      · rintro i y G3 G4 hi b2 ⟨rfl, hy⟩
        rw [lx] at hi
        obtain ⟨y', hy', hd⟩ := ex i hi
        rw [hy'] at hy
        obtain rfl := Option.some.inj hy
        have hd2 := b2.old nD2 (fun _ z => z.elim) (bd.old nD (fun _ z => z.elim) hd)
        obtain ⟨l, rfl⟩ := hd2.tupV
        obtain ⟨ys, hys, lys, eys⟩ := At.tupR hd2
        have hj2 : j < w2 := by rw [e2 i hi]; exact hj
        obtain ⟨z, hz, hzd⟩ := eys j hj2
        refine ⟨rfl, _, rfl, _, rfl, l, _, _, _, rfl, rfl, SqT.of hys, at_of (Int.zero_add _) hz, ?_⟩
        obtain ⟨acc, a1, a2, a3⟩ := b2.step nD2 Keep.refl (fun _ z => z.elim) id hzd
        refine ⟨acc, a1, by rw [a2, rng_len]; exact small1000 (by omega), ?_⟩
        rw [rng_succ]
        exact a3
      · rintro G3 b2
        rw [lx] at b2
        have hcol := b2.done nN2
        have hrow := (bd.old nD (fun _ z => z.elim) hp).same b2.k.same
        refine ⟨And1 N D, p, D2, h, u, fun i => U i j, rfl, hrow, hcol.weak (Le.lstR fun _ _ => .refl _), alG.keep b2.k, h1, zu, ?_, fun r G4 s4 nr hr4 => ?_⟩
        · by_cases h0 : h = 0
          · subst h0
            exact ⟨1, by decide, show (1 : Int).natAbs < 2 ^ 6000 by exact Nat.one_lt_two_pow (by decide), fun j hj => absurd hj (by omega)⟩
          · exact zU.col (by rw [e2 0 (by omega)]; exact hj)
        obtain ⟨acc, a1, a2, a3⟩ := bd.step nD (b2.k.trans (Same.keep s4)) (fun _ z => z.elim) id hr4
        refine ⟨acc, a1, by rw [a2, rng_len]; exact small1000 (by omega), ?_⟩
        rw [rng_succ]
        exact a3
    · rintro G1 bd
      obtain ⟨ys, hys, lys, eys⟩ := (bd.done nND).lstE
      refine ⟨D, ys, rfl, .inl ⟨SqL.of hys, fun r nr => ?_⟩⟩
      exact kk r _ (bd.k.same.trans (Same.upd nr)) (At.newT (al.keep bd.k) nr lys eys)
end
end RX

set_option Elab.async false
set_option maxRecDepth 100000
namespace RX
open PySem L2 LX VA VM VN EB
open RQ (Hg Bt)
theorem all_truP {w : Nat} {p : Nat → Prop} : (List.range w).all (fun j => tru (p j)) = tru (∀ j, j < w → p j) := by
  by_cases z : ∀ j, j < w → p j
  · rw [tru_t z]
    exact List.all_eq_true.mpr fun j hj => tru_t (z j (List.mem_range.mp hj))
  · rw [tru_f z]
    refine Bool.eq_false_iff.mpr fun e => z fun j hj => ?_
    exact tru_iff.mp (List.all_eq_true.mp e j (List.mem_range.mpr hj))
theorem blsR {n : Nat} {f : Nat → Bool} : (List.range (n + 1)).map (fun i => V.bl (f i)) = (List.range n).map (fun i => V.bl (f i)) ++ [V.bl (f n)] := by
  rw [List.range_succ, List.map_append]
  rfl
theorem allR {n : Nat} {f : Nat → Bool} : ((List.range n).map f).all id = (List.range n).all f := by
  rw [List.all_map]
  rfl
theorem anyC {n : Nat} {b : Bool} : ((List.range n).map fun _ => b).any id = (decide (0 < n) && b) := by
  cases n with
  | zero => rfl
  | succ n =>
    rw [decide_eq_true (show 0 < n + 1 by omega), Bool.true_and]
    cases b with
    | true => exact List.any_eq_true.mpr ⟨true, List.mem_map.mpr ⟨0, List.mem_range.mpr (by omega), rfl⟩, rfl⟩
    | false =>
      refine Bool.eq_false_iff.mpr fun e => ?_
      obtain ⟨x, hx, hx2⟩ := List.any_eq_true.mp e
      obtain ⟨_, _, rfl⟩ := List.mem_map.mp hx
      cases hx2
theorem bls_len {n : Nat} {f : Nat → Bool} (h : n ≤ 1000) : ((List.range n).map fun i => V.bl (f i)).length < sizeLine := by
  rw [List.length_map, List.length_range]
  exact small1000 (by omega)
theorem le_row {n : Nat} {u : Nat → Rat} : Le (ratR n u) (sqR n u) := Le.tupR fun _ _ => .refl _
theorem le_steps {m : Mc} : Le (stepsD m) (sqS m) := Le.tupR fun _ _ => Le.tupR fun _ _ => Le.tupR fun _ _ => .refl _
theorem nat_ne {a b : Nat} : decide (V.int (a : Int) = V.int (b : Int)) = decide (a = b) := by
  by_cases h : a = b
  · rw [h, decide_eq_true rfl, decide_eq_true rfl]
  · rw [decide_eq_false h, decide_eq_false fun z => h (by injection z with z; omega)]
section
variable {P : Program} {w : World} {K : PySem.W.Frag} {mg : Str → Option Value} {base : Heap}
theorem ok_iw {f fS C fE : Addr} {fd dS dE : FuncData} (F : Fun K "_is_same_way" "_is_same_way" sSameWay f fd) (TP : TxtP mg) (T : TxtL mg) (mall : mg "all" = none) (cRl : CalN P w K mg base "_row_led" 36 ["row", "table", "width"] (spRl C) fS dS)
    (GE : FnOk P w K mg base CX0 1 fE dE ["self", "other"] (spEqB (RRat C))) (sE : PySem.W.findIn K (.ref C) "__eq__" = some (some (.ref fE))) (iE : PySem.W.isFn K (.ref fE) = true) (bE : Binds K dE ["self", "other"] []) : FnOk P w K mg base CX0 37 f fd ["step", "its", "table", "width"] (spIw C) := by
  refine F.ok scIw (fun vs H Q E h => ?_) (fun cdv A outer s H vs Q E hr h => ?_)
  · obtain ⟨N, p, q, r, h, w, w2, T1, T2, U, rfl, _⟩ := h
    rfl
  · obtain ⟨N, p, q, r, h, w, w2, T1, T2, U, rfl, hp, hq, hr', al, h1, w1, e2, z1, z2, zU, kk⟩ := h
    have hr36 : Room 36 _ := hr
    have hr2 : Room 2 _ := hr.mono (by decide)
    obtain ⟨xs, hx, lx, ex⟩ := At.tupR hp
    obtain ⟨ys, hy, ly, ey⟩ := At.tupR hr'
    have sq : ∀ {H' : Hp} {a : Addr} {zs : List V}, H' a = some (.tup zs) → ZM.SqB true K H' a zs := fun h => .inl ⟨rfl, SqT.of h⟩
    refine ⟨_, pss_one (ps_ret (pe_callB (cr_all rfl) (by rfl) mall (by decide +kernel) (pa_cons (pe_lc (own := [("row", 4), ("line", 5)]) (g := gTup K 2 (gCons (gName 4) (gCons (gName 5) gNil))) (tt := tYes) rfl scIw.nd (ZM.pi_zipM (by rfl) TP.zip (pa_cons (pv 0) (pa_cons (pv 2) pa_nil))) (blkOk_by (N := ["step", "its", "table", "width", "row", "line"]) (sc := (defScope sSameWay)) (by decide +kernel)) (fun _ _ _ _ _ => (pg_tup rfl (pgs_cons (pg_name (i := 4) scIw.nd rfl (.inl rfl)) (pgs_cons (pg_name (i := 5) scIw.nd rfl (.inl rfl)) pgs_nil)))) (fun _ _ _ _ _ => pts_nil) (fun _ _ _ _ _ => (pe_cmpR (show OpR _ _ (EB.rEqB K (DRat C)) from EB.op_eqB drat_mon (EB.eqB_ins GE rrat_own sE iE bE pass0) hr2) (pe_call cRl.G hr36 rfl cRl.m cRl.kp cRl.b .nil pass0 (pa_cons (pv 4) (pa_cons (pv 2) (pa_cons (pv 3) pa_nil)))) (pe_call cRl.G hr36 rfl cRl.m cRl.kp cRl.b .nil pass0 (pa_cons (pv 5) (pa_cons (pv 1) (pa_cons (pv 3) pa_nil)))) (nomark _)))) pa_nil))), ?_⟩
    refine ⟨_, rfl, _, rfl, true, true, p, r, _, _, rfl, sq hx, sq hy, fun D nD => ?_⟩
    refine lc_it (ZM.walk_zipM (K := K) (k := true) (l := true) (a := p) (b := r) (xs := xs) (ys := ys) (n := h) (by rw [lx, ly, Nat.min_self])) (fun i G => G D = some (.lst ((List.range i).map fun i => V.bl (tru (∀ j, j < w → led h (T1 i) U j = led w (U i) T2 j)))) ∧ Same H G) ⟨upd_same, Same.upd nD⟩ (fun i G _ b => ⟨sq (b.2 _ _ hx), sq (b.2 _ _ hy)⟩) ?_ ?_
    · rintro i v G1 G2 hi ⟨hD, s1⟩ ⟨T', x, x', rfl, nT, rfl, g1, g2⟩
      obtain ⟨x0, hx0, dx0⟩ := ex i hi
      obtain ⟨y0, hy0, dy0⟩ := ey i hi
      have g1 : xs[i]? = some x := g1
      have g2 : ys[i]? = some x' := g2
      rw [hx0] at g1
      obtain rfl := Option.some.inj g1
      rw [hy0] at g2
      obtain rfl := Option.some.inj g2
      obtain ⟨a, rfl⟩ := dx0.tupV
      obtain ⟨b, rfl⟩ := dy0.tupV
      have sT : Same G1 (upd G1 T' (.tup [.ref a, .ref b])) := Same.upd nT
      have s2 := s1.trans sT
      have al2 := al.keep (Same.keep (N := Emp) s2)
      refine ⟨T', _, rfl, SqT.of upd_same, rfl, _, _, rfl, _, _, rfl, rfl, rfl, ?_⟩
      have hD := sT _ _ hD
      generalize upd G1 T' (.tup [.ref a, .ref b]) = G2 at *
      have ew := e2 i hi
      subst ew
      refine ⟨_, rfl, _, rfl, _, rfl, N, a, r, h, w2, w2, T1 i, U, rfl, dx0.same s2, hr'.same s2, al2, h1, w1, fun _ _ => rfl, z1.row hi, zU, fun c1 G3 s3 hc1 => ?_⟩
      have s3' := s2.trans s3
      refine ⟨_, rfl, _, rfl, _, rfl, N, b, q, w2, w2, w2, U i, T2, rfl, dy0.same s3', hq.same s3', al.keep (Same.keep (N := Emp) s3'), w1, w1, fun _ _ => rfl, zU.row hi, z2, fun c2 G4 s4 hc2 => ?_⟩
      refine rows_eq (hc1.same s4) hc2 fun G5 s5 => ?_
      have s5' := s3.trans (s4.trans s5)
      refine ⟨_, s5' _ _ hD, bls_len (by omega), ?_, fun c o hc => ?_⟩
      · rw [upd_same, blsR (f := fun i => tru (∀ j, j < w2 → led h (T1 i) U j = led w2 (U i) T2 j))]
      · rw [upd_ne (ne_of_none hc nD)]
        exact s5' _ _ (s2 _ _ hc)
    · rintro G1 ⟨hD, s1⟩
      refine ⟨D, (List.range h).map fun i => tru (∀ j, j < w → led h (T1 i) U j = led w (U i) T2 j), rfl, SqL.of (by rw [hD, List.map_map]; rfl), ?_⟩
      rw [allR, all_truP (p := fun i => ∀ j, j < w → led h (T1 i) U j = led w (U i) T2 j)]
      exact kk G1 s1
theorem ok_ic {f fS fR fI C CM fE qS fSi : Addr} {fd dS dR dI dE dSi : FuncData} (F : Fun K "is_carry" "is_carry" sIsCarry f fd) (TP : TxtP mg) (T : TxtL mg) (TM : TxtM K mg CM) (mall : mg "all" = none) (many : mg "any" = none) (cSp : CalN P w K mg base "sum_of_products" 35 ["row", "column"] (spSp C) fS dS) (cRl : CalN P w K mg base "_row_led" 36 ["row", "table", "width"] (spRl C) fR dR)
    (cIw : CalN P w K mg base "_is_same_way" 37 ["step", "its", "table", "width"] (spIw C) fI dI) (cSi : PropN P w K mg base CM "size" 1 (spSi C CM) qS fSi dSi)
    (GE : FnOk P w K mg base CX0 1 fE dE ["self", "other"] (spEqB (RRat C))) (sE : PySem.W.findIn K (.ref C) "__eq__" = some (some (.ref fE))) (iE : PySem.W.isFn K (.ref fE) = true) (bE : Binds K dE ["self", "other"] []) : FnOk P w K mg base CX0 38 f fd ["one", "other", "table"] (spIc C CM) := by
  refine F.ok scIc (fun vs H Q E h => ?_) (fun cdv A outer s H vs Q E hr h => ?_)
  · obtain ⟨N, p1, a1, p2, a2, q, m1, m2, h, w, U, rfl, _⟩ := h
    rfl
  · obtain ⟨N, p1, a1, p2, a2, q, m1, m2, h, w, U, rfl, M1, M2, hq, al, h1, w1, ek, b1, b2, bU, kk⟩ := h
    have hr37 : Room 37 _ := hr
    have hr36 : Room 36 _ := hr.mono (by decide)
    have hr35 : Room 35 _ := hr.mono (by decide)
    have hr2 : Room 2 _ := hr.mono (by decide)
    have hr1 : Room 1 _ := hr.mono (by decide)
    obtain ⟨xs, hx, lx, ex⟩ := At.tupR hq
    obtain ⟨dx1, vS1, vT1, vE1, hp1, hS1, hT1, hE1⟩ := M1.ex
    obtain ⟨dx2, vS2, vT2, vE2, hp2, hS2, hT2, hE2⟩ := M2.ex
    have no : ∀ H', Same H H' → ¬ Carry m1 m2 h w U → Q (.bl false) H' := fun H' s z => by
      have := kk H' s
      rw [tru_f z] at this
      exact this
    refine ⟨_, C8.pss_cut (ps_if (PW.pt (pw_or (pt_cmpR op_ne (pe_callB call_len_seq (by rfl) T.len PySem.boot_len (pa_cons (pv 2) pa_nil)) (pe_prop (pv 0) TM.cl cSi.p cSi.G hr2 cSi.b .nil pass0 rfl) (nomark _)) (pw_or1 (pt_val (pe_callB (cr_any rfl) (by rfl) many (by decide +kernel) (pa_cons (pe_lc (own := [("line", 5)]) (g := gName 5) (tt := tYes) rfl scIc.nd (pi_tup (pv 2)) (blkOk_by (N := ["one", "other", "table", "step", "its", "line"]) (sc := (defScope sIsCarry)) (by decide +kernel)) (fun _ _ _ _ _ => (pg_name (i := 5) scIc.nd rfl (.inl rfl))) (fun _ _ _ _ _ => pts_nil) (fun _ _ _ _ _ => (pe_cmpR op_ne (pe_callB (show CallR _ (.builtin "len") (rLenS K) from call_len_seqK) (by rfl) T.len PySem.boot_len (pa_cons (pv 5) pa_nil)) (pe_prop (pv 1) TM.cl cSi.p cSi.G hr2 cSi.b .nil pass0 rfl) (nomark _)))) pa_nil))))))
        (pss_one (ps_ret pe_bl))
        pss_nil)
      (pss_cons (ps_if (pt_cmpR (show OpR _ _ (EB.rNeB K (DRat C)) from EB.op_neB drat_mon (EB.eqB_ins GE rrat_own sE iE bE pass0) hr2) (pe_call cRl.G hr36 rfl cRl.m cRl.kp cRl.b .nil pass0 (pa_cons (pe_fld (pv 0) rfl) (pa_cons (pv 2) (pa_cons (pe_prop (pv 1) TM.cl cSi.p cSi.G hr2 cSi.b .nil pass0 rfl) pa_nil)))) (pe_fld (pv 1) rfl) (nomark _))
        (pss_one (ps_ret pe_bl))
        pss_nil)
      (pss_cons (ps_if (pt_cmpR (show OpR _ _ (EB.rNeB K (DRat C)) from EB.op_neB drat_mon (EB.eqB_ins GE rrat_own sE iE bE pass0) hr2) (pe_callTy (T := "tuple") call_tuple_of (by rfl) TP.tup (by decide +kernel) (pa_cons (pe_lc (own := [("line", 5)]) (g := gName 5) (tt := tYes) rfl scIc.nd (pi_tup (pv 2)) (blkOk_by (N := ["one", "other", "table", "step", "its", "line"]) (sc := (defScope sIsCarry)) (by decide +kernel)) (fun _ _ _ _ _ => (pg_name (i := 5) scIc.nd rfl (.inl rfl))) (fun _ _ _ _ _ => pts_nil) (fun _ _ _ _ _ => (pe_call cSp.G hr35 rfl cSp.m cSp.kp cSp.b .nil pass0 (pa_cons (pv 5) (pa_cons (pe_fldK (K := K) rfl (pv 1) rfl) pa_nil))))) pa_nil)) (pe_fld (pv 0) rfl) (nomark _))
        (pss_one (ps_ret pe_bl))
        pss_nil)
      (pss_one (ps_ret (pe_callB (cr_all rfl) (by rfl) mall (by decide +kernel) (pa_cons (pe_lc (own := [("step", 3), ("its", 4)]) (g := gTup K 2 (gCons (gName 3) (gCons (gName 4) gNil))) (tt := tYes) rfl scIc.nd (ZM.pi_zipM (by rfl) TP.zip (pa_cons (pe_fld (pv 0) rfl) (pa_cons (pe_fld (pv 1) rfl) pa_nil))) (blkOk_by (N := ["one", "other", "table", "step", "its", "line"]) (sc := (defScope sIsCarry)) (by decide +kernel)) (fun _ _ _ _ _ => (pg_tup rfl (pgs_cons (pg_name (i := 3) scIc.nd rfl (.inl rfl)) (pgs_cons (pg_name (i := 4) scIc.nd rfl (.inl rfl)) pgs_nil)))) (fun _ _ _ _ _ => pts_nil) (fun _ _ _ _ _ => (pe_call cIw.G hr37 rfl cIw.m cIw.kp cIw.b .nil pass0 (pa_cons (pv 3) (pa_cons (pv 4) (pa_cons (pv 2) (pa_cons (pe_prop (pv 1) TM.cl cSi.p cSi.G hr2 cSi.b .nil pass0 rfl) pa_nil))))))) pa_nil)))))), ?_⟩
    refine ⟨fun σ' H' => σ' = [some (.ref p1), some (.ref p2), some (.ref q), none, none, none] ∧ Same H H' ∧ h = m1.n ∧ ∀ i, i < h → w = m2.n, ?_, ?_⟩
    · refine ⟨_, rfl, q, xs, rfl, .inr (SqT.of hx), _, rfl, p1, dx1, _, rfl, hp1, N, p1, a1, m1, rfl, M1, rfl, _, rfl, ?_⟩
      rw [lx, nat_ne]
      by_cases e1 : h = m1.n
      · refine itF (by rw [decide_eq_true e1]; rfl) ?_
        refine ⟨_, rfl, q, rfl, ⟨_, SqT.of hx⟩, fun D nD => ?_⟩
        refine lc_it (walk_tup (K := K) (a := q) (xs := xs)) (fun i G => G D = some (.lst ((List.range i).map fun _ => V.bl (!decide (w = m2.n)))) ∧ Same H G) ⟨upd_same, Same.upd nD⟩ (fun i G _ b => SqT.of (b.2 _ _ hx)) ?_ ?_
        · rintro i y G1 G2 hi ⟨hD, s1⟩ ⟨rfl, hy⟩
          rw [lx] at hi
          obtain ⟨y', hy', hd⟩ := ex i hi
          rw [hy'] at hy
          obtain rfl := Option.some.inj hy
          obtain ⟨l, rfl⟩ := (hd.same s1).tupV
          obtain ⟨ys, hys, lys, _⟩ := At.tupR (hd.same s1)
          refine ⟨rfl, _, rfl, l, ys, rfl, .inr (SqT.of hys), _, rfl, p2, dx2, _, rfl, s1 _ _ hp2, N, p2, a2, m2, rfl, M2.same s1, rfl, ?_⟩
          rw [lys, nat_ne]
          refine ⟨_, hD, bls_len (by omega), ?_, fun c o hc => ?_⟩
          · rw [upd_same, blsR (f := fun _ => !decide (w = m2.n))]
          · rw [upd_ne (ne_of_none hc nD)]
            exact s1 _ _ hc
        · rintro G1 ⟨hD, s1⟩
          rw [lx] at hD
          refine ⟨D, (List.range h).map fun _ => !decide (w = m2.n), rfl, SqL.of (by rw [hD, List.map_map]; rfl), _, rfl, ?_⟩
          rw [anyC]
          by_cases e2 : 0 < h
          · by_cases e3 : w = m2.n
            · refine itF (by rw [decide_eq_true e3]; simp) ?_
              exact ⟨rfl, s1, e1, fun _ _ => e3⟩
            · refine itT (by rw [decide_eq_true e2, decide_eq_false e3]; rfl) ?_
              exact no G1 s1 fun z => e3 (z.2.1 0 e2)
          · refine itF (by rw [decide_eq_false e2]; rfl) ?_
            exact ⟨rfl, s1, e1, fun i hi => absurd hi (by omega)⟩
      · refine itT (by rw [decide_eq_false e1]; rfl) ?_
        exact no H (Same.refl H) fun z => e1 z.1
    · rintro σ' H1 ⟨rfl, s1, eh, ew⟩
      subst eh
      have al1 := al.keep (Same.keep (N := Emp) s1)
      have n2 := M2.n1
      refine ⟨_, rfl, p1, CM, dx1, _, _, rfl, s1 _ _ hp1, TM.cl, TM.nS, mf_s, _, rfl, _, rfl, p2, dx2, _, rfl, s1 _ _ hp2, N, p2, a2, m2, rfl, M2.same s1, ?_⟩
      obtain ⟨r1, rfl⟩ := hS1.tupV
      obtain ⟨r2, rfl⟩ := hS2.tupV
      obtain ⟨r3, rfl⟩ := hE1.tupV
      obtain ⟨r4, rfl⟩ := hE2.tupV
      obtain ⟨t1, rfl⟩ := hT1.tupV
      obtain ⟨t2, rfl⟩ := hT2.tupV
      refine ⟨N, r1, q, m1.n, m2.n, w, m1.s, U, rfl, hS1.same s1, hq.same s1, al1, h1, n2, ew, b1.s, bU, fun c1 G2 s2 hc1 => ?_⟩
      have s2' := s1.trans s2
      refine ⟨_, rfl, p2, CM, dx2, _, _, rfl, s2' _ _ hp2, TM.cl, TM.nS, mf_s, ?_⟩
      refine rows_ne hc1 (hS2.same s2') fun G3 s3 => ⟨_, rfl, ?_⟩
      have s3' := s2'.trans s3
      by_cases e3 : ∀ j, j < m2.n → led m1.n m1.s U j = m2.s j
      · refine itF (by rw [tru_t e3]; rfl) ?_
        have hx3 := s3' _ _ hx
        refine ⟨_, rfl, q, rfl, ⟨_, SqT.of hx3⟩, fun D nD => ?_⟩
        have al3 := al.keep (Same.keep (N := Emp) s3')
        have nND := al3.fresh nD
        refine lc_it (walk_tup (K := K) (a := q) (xs := xs)) (fun i G => Bld C Emp N G3 D (rng i fun i => .rat (dot (U i) m2.e m2.n)) G) (bld0 nD) (fun i G _ b => SqT.of (b.k.same _ _ hx3)) ?_ ?_
        · rintro i y G4 G5 hi bd ⟨rfl, hy⟩
          rw [lx] at hi
          obtain ⟨y', hy', hd⟩ := ex i hi
          rw [hy'] at hy
          obtain rfl := Option.some.inj hy
          obtain ⟨l, rfl⟩ := hd.tupV
          have s5 := s3'.trans bd.k.same
          have hl := bd.old nD (fun _ z => z.elim) (hd.same s3')
          have he := bd.old nD (fun _ z => z.elim) (hE2.same s3')
          have ewi := ew i hi
          subst ewi
          refine ⟨rfl, _, rfl, _, rfl, p2, CM, dx2, _, _, rfl, s5 _ _ hp2, TM.cl, TM.nE, mf_e, And1 N D, l, r4, m2.n, U i, m2.e, rfl, hl, he.weak le_row, bd.alc al3, n2, bU.row hi, b2.e, fun z G6 s6 nz hz => ?_⟩
          obtain ⟨acc, q1, q2, q3⟩ := bd.step nD (Same.keep s6) (fun _ z => z.elim) id hz
          refine ⟨acc, q1, by rw [q2, rng_len]; exact small1000 (by omega), ?_⟩
          rw [rng_succ]
          exact q3
        · rintro G4 bd
          rw [lx] at bd
          obtain ⟨ys, hys, lys, eys⟩ := (bd.done nND).lstE
          refine ⟨D, ys, rfl, .inl ⟨SqL.of hys, fun r nr => ?_⟩⟩
          have hr' := At.newT (al3.keep bd.k) nr lys eys
          have s5 := s3'.trans (bd.k.same.trans (Same.upd (o := .tup ys) nr))
          generalize upd G4 r (.tup ys) = G5 at *
          refine ⟨_, rfl, p1, CM, dx1, _, _, rfl, s5 _ _ hp1, TM.cl, TM.nE, mf_e, ?_⟩
          refine rows_ne hr' (hE1.same s5) fun G6 s6 => ⟨_, rfl, ?_⟩
          have s6' := s5.trans s6
          by_cases e4 : ∀ j, j < m1.n → dot (U j) m2.e m2.n = m1.e j
          · refine itF (by rw [tru_t e4]; rfl) ?_
            have al6 := al.keep (Same.keep (N := Emp) s6')
            obtain ⟨us, hu, lu, eu⟩ := At.tupR (hT1.same s6')
            obtain ⟨vs, hv, lv, ev⟩ := At.tupR (hT2.same s6')
            have sq : ∀ {H' : Hp} {a : Addr} {zs : List V}, H' a = some (.tup zs) → ZM.SqB true K H' a zs := fun h => .inl ⟨rfl, SqT.of h⟩
            have kf := M1.k4
            refine ⟨_, rfl, p1, CM, dx1, _, _, rfl, s6' _ _ hp1, TM.cl, TM.nT, mf_t, _, rfl, p2, CM, dx2, _, _, rfl, s6' _ _ hp2, TM.cl, TM.nT, mf_t, true, true, t1, t2, _, _, rfl, sq hu, sq hv, fun D nD => ?_⟩
            refine lc_it (ZM.walk_zipM (K := K) (k := true) (l := true) (a := t1) (b := t2) (xs := us) (ys := vs) (n := m1.k) (by rw [lu, lv, ek, Nat.min_self])) (fun i G => G D = some (.lst ((List.range i).map fun x => V.bl (tru (∀ i, i < m1.n → ∀ j, j < m2.n → led m1.n (m1.t x i) U j = led m2.n (U i) (m2.t x) j)))) ∧ Same G6 G) ⟨upd_same, Same.upd nD⟩ (fun i G _ b => ⟨sq (b.2 _ _ hu), sq (b.2 _ _ hv)⟩) ?_ ?_
            · rintro i v G7 G8 hi ⟨hD, s7⟩ ⟨T', x, x', rfl, nT, rfl, g1, g2⟩
              obtain ⟨x0, hx0, dx0⟩ := eu i hi
              obtain ⟨y0, hy0, dy0⟩ := ev i (by omega)
              have g1 : us[i]? = some x := g1
              have g2 : vs[i]? = some x' := g2
              rw [hx0] at g1
              obtain rfl := Option.some.inj g1
              rw [hy0] at g2
              obtain rfl := Option.some.inj g2
              obtain ⟨a, rfl⟩ := dx0.tupV
              obtain ⟨b, rfl⟩ := dy0.tupV
              have sT : Same G7 (upd G7 T' (.tup [.ref a, .ref b])) := Same.upd nT
              have s8 := s7.trans sT
              refine ⟨T', _, rfl, SqT.of upd_same, rfl, _, _, rfl, _, _, rfl, rfl, rfl, ?_⟩
              have hD := sT _ _ hD
              generalize upd G7 T' (.tup [.ref a, .ref b]) = G8 at *
              have s8' := s6'.trans s8
              refine ⟨_, rfl, _, rfl, _, rfl, _, rfl, p2, dx2, _, rfl, s8' _ _ hp2, N, p2, a2, m2, rfl, M2.same s8', ?_⟩
              refine ⟨N, a, b, q, m1.n, m2.n, w, m1.t i, m2.t i, U, rfl, dx0.same s8, dy0.same s8, hq.same s8', al.keep (Same.keep (N := Emp) s8'), h1, n2, ew, b1.t i hi, b2.t i (by omega), bU, fun G9 s9 => ?_⟩
              refine ⟨_, s9 _ _ hD, bls_len (by omega), ?_, fun c o hc => ?_⟩
              · rw [upd_same, blsR (f := fun x => tru (∀ i, i < m1.n → ∀ j, j < m2.n → led m1.n (m1.t x i) U j = led m2.n (U i) (m2.t x) j))]
              · rw [upd_ne (ne_of_none hc nD)]
                exact s9 _ _ (s8 _ _ hc)
            · rintro G7 ⟨hD, s7⟩
              refine ⟨D, (List.range m1.k).map fun x => tru (∀ i, i < m1.n → ∀ j, j < m2.n → led m1.n (m1.t x i) U j = led m2.n (U i) (m2.t x) j), rfl, SqL.of (by rw [hD, List.map_map]; rfl), ?_⟩
              rw [allR, all_truP (p := fun x => ∀ i, i < m1.n → ∀ j, j < m2.n → led m1.n (m1.t x i) U j = led m2.n (U i) (m2.t x) j)]
              have := kk G7 (s6'.trans s7)
              rw [tru_congr (q := ∀ x, x < m1.k → ∀ i, i < m1.n → ∀ j, j < m2.n → led m1.n (m1.t x i) U j = led m2.n (U i) (m2.t x) j) ⟨fun z => z.2.2.2.2, fun z => ⟨rfl, ew, e3, e4, z⟩⟩] at this
              exact this
          · refine itT (by rw [tru_f e4]; rfl) ?_
            exact no G6 s6' fun z => e4 z.2.2.2.1
      · refine itT (by rw [tru_f e3]; rfl) ?_
        exact no G3 s3' fun z => e3 z.2.2.1
end
end RX

set_option Elab.async false
set_option maxRecDepth 100000
namespace RX
open PySem L2 LX VA VM VN EB
open RQ (Hg Bt)
abbrev sRowBy : Stmt := topS 60
theorem scRb : FnScope ["row", "table", "width", "place", "k"] ["row", "table", "width"] (defScope sRowBy) := ⟨rfl, rfl, rfl, by decide +kernel, rfl, by decide +kernel, by decide +kernel⟩
abbrev outRb0 : Scope := { kind := .function, names := [(".0", .local), ("place", .cell), ("_law_sum_by", .globalImplicit), ("range", .globalImplicit), ("len", .globalImplicit), ("row", .cell), ("table", .cell)], isGenerator := false, isCoroutine := false }
abbrev sRats : Stmt := topS 57
theorem scRs : FnScope ["row", "number"] ["row"] (defScope sRats) := ⟨rfl, rfl, rfl, by decide +kernel, rfl, by decide +kernel, by decide +kernel⟩
abbrev sMakeM : Stmt := topS 58
theorem scMa : FnScope ["parts", "steps", "step", "row"] ["parts"] (defScope sMakeM) := ⟨rfl, rfl, rfl, by decide +kernel, rfl, by decide +kernel, by decide +kernel⟩
abbrev sTabs : Stmt := topS 63
theorem scTb2 : FnScope ["table", "row"] ["table"] (defScope sTabs) := ⟨rfl, rfl, rfl, by decide +kernel, rfl, by decide +kernel, by decide +kernel⟩
def ratsL (n : Nat) (u : Nat → Rat) : Dat := .lst (rng n fun j => .rat (u j))
def partsK (m : Mc) : Dat := .lst [.int (m.k : Int), prL m.n m.s, .lst (rng m.k fun x => prT m.n m.n (m.t x)), prL m.n m.e]
theorem At.partsK {C : Addr} {N : Addr → Prop} {H : Hp} {p : Addr} {m : Mc} (h : At C N H (.ref p) (partsK m)) : ∃ a b c, H p = some (.lst [.int (m.k : Int), .ref a, .ref b, .ref c]) ∧ At C N H (.ref a) (prL m.n m.s) ∧ At C N H (.ref b) (.lst (rng m.k fun x => prT m.n m.n (m.t x))) ∧ At C N H (.ref c) (prL m.n m.e) := by
  obtain ⟨xs, hp, l, e⟩ := h.lstE
  match xs, l with
  | [x, y, z, u], _ =>
    have h0 := (e 0 x _ rfl rfl).intV
    have h1 := e 1 y _ rfl rfl
    have h2 := e 2 z _ rfl rfl
    have h3 := e 3 u _ rfl rfl
    subst h0
    obtain ⟨a, rfl⟩ := h1.lstV
    obtain ⟨b, rfl⟩ := h2.lstV
    obtain ⟨c, rfl⟩ := h3.lstV
    exact ⟨a, b, c, hp, h1, h2, h3⟩
theorem make_m {C CM : Addr} {N : Addr → Prop} {H0 H : Hp} {vS vT vE : V} {m : Mc} {Q : VK} {E : XK} (s : Same H0 H) (al : Alc N H) (hS : At C N H vS (sqR m.n m.s)) (hT : At C N H vT (sqS m)) (hE : At C N H vE (sqR m.n m.e)) (k1 : 1 ≤ m.k) (k4 : m.k ≤ 4) (n1 : m.n ≤ 1000)
    (kk : ∀ (q ad : Addr) (H' : Hp), Same H0 H' → H0 q = none → H0 ad = none → MachAt C CM (And1 N ad) H' q ad m → Q (.ref q) H') :
    ∀ pp dxx, H pp = none → H dxx = none → dxx ≠ pp → spMi C CM (.ref pp :: ([.int (m.k : Int), vS, vT, vE] ++ [])) (upd (upd H dxx (.own pp)) pp (.ins CM dxx [])) (fun v H1 => v = .non ∧ Q (.ref pp) H1) E := by
  intro pp dxx np nd ndp
  have np' : ¬ N pp := al.fresh np
  have k3 : Keep (And1 N pp) H (upd (upd H dxx (.own pp)) pp (.ins CM dxx [])) := (Keep.new nd).trans (Keep.upd (.inr rfl))
  have lift : ∀ {v : V} {d : Dat}, At C N H v d → At C (And1 N pp) (upd (upd H dxx (.own pp)) pp (.ins CM dxx [])) v d := fun h => (h.and np).keep k3
  refine ⟨N, pp, dxx, _, _, _, m, rfl, upd_same, lift hS, lift hT, lift hE, k1, k4, n1, al.keep (M := And1 N pp) k3, np', fun ab' H4 keep nab hM _ => ⟨rfl, ?_⟩⟩
  have nab3 : H ab' = none := by
    cases q : H ab' with
    | none => rfl
    | some o =>
      have e : upd (upd H dxx (.own pp)) pp (.ins CM dxx []) ab' ≠ none := by
        by_cases e1 : ab' = pp
        · rw [e1, upd_same]; intro z; cases z
        · rw [upd_ne e1]
          by_cases e2 : ab' = dxx
          · rw [e2, upd_same]; intro z; cases z
          · rw [upd_ne e2, q]; intro z; cases z
      exact absurd nab e
  refine kk pp ab' H4 (fun c o hc => ?_) (s.free np) (s.free nab3) hM
  have hc3 := s _ _ hc
  have cp : c ≠ pp := ne_of_none hc3 np
  have cd : c ≠ dxx := ne_of_none hc3 nd
  exact keep c o (by rw [upd_ne cp, upd_ne cd]; exact hc3) cp
theorem bq_of_ov {M : Int} {b t c : Nat} {q : Rat} (m0 : M ≠ 0) (bM : Bt b M) (o : Ov M t q) (hb : b ≤ c) (ht : t ≤ c) : Bq c q := by
  have d := o.den m0
  refine ⟨d.2.up ht, (bM.le ?_).up hb⟩
  obtain ⟨z, hz⟩ := d.1
  rw [hz, Int.natAbs_mul]
  exact Nat.le_mul_of_pos_right _ (Int.natAbs_pos.mpr fun e => m0 (by rw [hz, e, Int.mul_zero]))
theorem RowB.bq {n b t c j : Nat} {u : Nat → Rat} (h : RowB n b t u) (hb : b ≤ c) (ht : t ≤ c) (hj : j < n) : Bq c (u j) := let ⟨_, m0, bM, o⟩ := h.ex; bq_of_ov m0 bM (o j hj) hb ht
theorem dotOk_row {n : Nat} {u v : Nat → Rat} (hn : n ≤ 1000) (h : RowB n 6000 7000 u) (k : RowB n 6000 7000 v) : DotOk n u v :=
  dotOk_bq (a := 7000) (b := 7000) (fun i hi => h.bq (by decide) (by decide) hi) (fun i hi => k.bq (by decide) (by decide) hi) (by
    have : (7000 + 7000 + 1) * n ≤ (7000 + 7000 + 1) * 1000 := Nat.mul_le_mul_left _ hn
    omega) (by decide)
def spRs (C : Addr) : Sp := fun vs H Q _ => ∃ (N : Addr → Prop) (p : Addr) (n : Nat) (u : Nat → Rat), vs = [.ref p] ∧ At C N H (.ref p) (prL n u) ∧ Alc N H ∧ n ≤ 1000 ∧ ∀ (r : Addr) (H' : Hp), Same H H' → H r = none → At C N H' (.ref r) (ratsL n u) → Q (.ref r) H'
def spTbs (C : Addr) : Sp := fun vs H Q _ => ∃ (N : Addr → Prop) (p : Addr) (h n : Nat) (U : Nat → Nat → Rat), vs = [.ref p] ∧ At C N H (.ref p) (prT h n U) ∧ Alc N H ∧ h ≤ 1000 ∧ n ≤ 1000 ∧ ∀ (r : Addr) (H' : Hp), Same H H' → At C N H' (.ref r) (ratT h n U) → Q (.ref r) H'
def spMaM (C CM : Addr) : Sp := fun vs H Q _ => ∃ (N : Addr → Prop) (p : Addr) (m : Mc), vs = [.ref p] ∧ At C N H (.ref p) (partsK m) ∧ Alc N H ∧ 1 ≤ m.k ∧ m.k ≤ 4 ∧ m.n ≤ 1000 ∧ ∀ (q ad : Addr) (H' : Hp), Same H H' → H q = none → H ad = none → MachAt C CM (And1 N ad) H' q ad m → Q (.ref q) H'
def spRbL (C : Addr) : Sp := fun vs H Q _ => ∃ (N : Addr → Prop) (p q : Addr) (h w w2 : Nat) (u : Nat → Rat) (U : Nat → Nat → Rat), vs = [.ref p, .ref q, .int (w : Int)] ∧ At C N H (.ref p) (prL h u) ∧ At C N H (.ref q) (prT h w2 U) ∧ Alc N H ∧ h ≤ 1000 ∧ w ≤ 1000 ∧ (∀ i, i < h → w2 = w) ∧ RowB h 6000 7000 u ∧ TabB h w2 6000 7000 U ∧
  ∀ (r : Addr) (H' : Hp), Same H H' → H r = none → At C N H' (.ref r) (prL w (led h u U)) → Q (.ref r) H'
section
variable {P : Program} {w : World} {K : PySem.W.Frag} {mg : Str → Option Value} {base : Heap}
theorem ok_rs {f fI C : Addr} {fd dI : FuncData} (F : Fun K "_law_ratios" "_law_ratios" sRats f fd) (TR : TxtR K mg C) (M : Mk K C fI) (GI : FnOk P w K mg base CX0 33 fI dI ["self", "top", "bottom"] (spInitB C)) (bI : Binds K dI ["self", "top", "bottom"] []) : FnOk P w K mg base CX0 35 f fd ["row"] (spRs C) := by
  refine F.ok scRs (fun vs H Q E h => ?_) (fun cdv A outer s H vs Q E hr h => ?_)
  · obtain ⟨N, q, k, u, rfl, _⟩ := h
    rfl
  · obtain ⟨N, q, k, u, rfl, hq, al, hk, kk⟩ := h
    have hr34 : Room 34 _ := hr
    obtain ⟨ys, hy, ly, ey⟩ := At.lstR hq
    refine ⟨_, pss_one (ps_ret (pe_lc (own := [("number", 1)]) (g := gName 1) (tt := tYes) rfl scRs.nd (pi_list (pv 0)) (blkOk_by (N := ["row", "number"]) (sc := (defScope sRats)) (by decide +kernel)) (fun _ _ _ _ _ => (pg_name (i := 1) scRs.nd rfl (.inl rfl))) (fun _ _ _ _ _ => pts_nil) (fun _ _ _ _ _ => (pe_make M GI hr34 rfl TR.mgC bI .nil pass0 (pa_cons (pe_ix (show IxR _ (rIxT K) from ix_tup) (pv 1) pe_int (fun _ _ => rfl)) (pa_cons (pe_ix (show IxR _ (rIxT K) from ix_tup) (pv 1) pe_int (fun _ _ => rfl)) pa_nil)))))), ?_⟩
    refine ⟨_, rfl, q, rfl, ⟨_, SqL.of hy⟩, fun D nD => ?_⟩
    have nND := al.fresh nD
    refine lc_it (walk_list (K := K) (a := q) (xs := ys)) (fun i G => Bld C Emp N H D (rng i fun i => .rat (u i)) G) (bld0 nD) (fun i G _ b => SqL.of (b.k.same _ _ hy)) ?_ ?_
    · rintro i x G1 G2 hi bd ⟨rfl, hx⟩
      rw [ly] at hi
      obtain ⟨y, hy1, hy2⟩ := ey i hi
      rw [hy1] at hx
      obtain rfl := Option.some.inj hx
      obtain ⟨a, rfl, ha, _⟩ := (hy2.same bd.k.same).pair
      have sa : SqT K G2 a [.int (u i).num, .int ((u i).den : Int)] := ha.t
      refine ⟨rfl, _, rfl, a, _, 0, _, rfl, rfl, sa, rfl, _, rfl, a, _, 1, _, rfl, rfl, sa, rfl, fun x dx nx nd _ => ?_⟩
      refine make4 (VM.den_ne (u i)) nx nd fun H4 s4 hR => ⟨rfl, ?_⟩
      have e : ((u i).num : Rat) = u i * (((u i).den : Int) : Rat) := RQ.nd (u i)
      obtain ⟨e1, e2⟩ := RQ.low (VM.den_ne (u i)) e
      rw [e1, e2] at hR
      obtain ⟨acc, h1, h2, h3⟩ := bd.step nD (Same.keep s4) (fun _ z => z.elim) id (.rat hR ((bd.alc al).fresh nx))
      refine ⟨acc, h1, by rw [h2, rng_len]; exact small1000 (by omega), ?_⟩
      rw [rng_succ]
      exact h3
    · rintro G1 bd
      rw [ly] at bd
      exact kk D G1 bd.k.same nD (bd.done nND)
theorem ok_tbs {f fL C : Addr} {fd dL : FuncData} (F : Fun K "_law_tables" "_law_tables" sTabs f fd) (TP : TxtP mg) (cRs : CalN P w K mg base "_law_ratios" 35 ["row"] (spRs C) fL dL) : FnOk P w K mg base CX0 36 f fd ["table"] (spTbs C) := by
  refine F.ok scTb2 (fun vs H Q E h => ?_) (fun cdv A outer s H vs Q E hr h => ?_)
  · obtain ⟨N, q, h, n, U, rfl, _⟩ := h
    rfl
  · obtain ⟨N, q, h, n, U, rfl, hq, al, hh, hn, kk⟩ := h
    have hr35 : Room 35 _ := hr
    obtain ⟨ys, hy, ly, ey⟩ := At.lstR hq
    refine ⟨_, pss_one (ps_ret (pe_callTy (T := "tuple") call_tuple_of (by rfl) TP.tup (by decide +kernel) (pa_cons (pe_lc (own := [("row", 1)]) (g := gName 1) (tt := tYes) rfl scTb2.nd (pi_list (pv 0)) (blkOk_by (N := ["table", "row"]) (sc := (defScope sTabs)) (by decide +kernel)) (fun _ _ _ _ _ => (pg_name (i := 1) scTb2.nd rfl (.inl rfl))) (fun _ _ _ _ _ => pts_nil) (fun _ _ _ _ _ => (pe_callTy (T := "tuple") (show CallR _ (.type "tuple") (rTupO K) from call_tupK) (by rfl) TP.tup (by decide +kernel) (pa_cons (pe_call cRs.G hr35 rfl cRs.m cRs.kp cRs.b .nil pass0 (pa_cons (pv 1) pa_nil)) pa_nil)))) pa_nil))), ?_⟩
    refine ⟨_, rfl, q, rfl, ⟨_, SqL.of hy⟩, fun D nD => ?_⟩
    have nND := al.fresh nD
    refine lc_it (walk_list (K := K) (a := q) (xs := ys)) (fun i G => Bld C Emp N H D (rng i fun i => ratR n (U i)) G) (bld0 nD) (fun i G _ b => SqL.of (b.k.same _ _ hy)) ?_ ?_
    · rintro i x G1 G2 hi bd ⟨rfl, hx⟩
      rw [ly] at hi
      obtain ⟨y, hy1, hy2⟩ := ey i hi
      rw [hy1] at hx
      obtain rfl := Option.some.inj hx
      obtain ⟨a, rfl⟩ := hy2.lstV
      have al2 := bd.alc al
      refine ⟨rfl, _, rfl, And1 N D, a, n, U i, rfl, bd.old nD (fun _ z => z.elim) hy2, al2, hn, fun r G3 s3 nr hr3 => ?_⟩
      obtain ⟨zs, hz, lz, ez⟩ := hr3.lstE
      refine ⟨r, zs, rfl, .inl ⟨SqL.of hz, fun r2 nr2 => ?_⟩⟩
      have ht := At.newT (al2.keep (Same.keep (N := Emp) s3)) nr2 lz ez
      obtain ⟨acc, h1, h2, h3⟩ := bd.step nD ((Same.keep s3).trans (Keep.new nr2)) (fun _ z => z.elim) id ht
      refine ⟨acc, h1, by rw [h2, rng_len]; exact small1000 (by omega), ?_⟩
      rw [rng_succ]
      exact h3
    · rintro G1 bd
      rw [ly] at bd
      obtain ⟨zs, hz, lz, ez⟩ := (bd.done nND).lstE
      refine ⟨D, zs, rfl, .inl ⟨SqL.of hz, fun r nr => ?_⟩⟩
      exact kk r _ (bd.k.same.trans (Same.upd nr)) (At.newT (al.keep bd.k) nr lz ez)
theorem ok_mam {f fL fM C CM : Addr} {fd dL dM : FuncData} (F : Fun K "_law_machine" "_law_machine" sMakeM f fd) (TM : TxtM K mg CM) (MM : Mk K CM fM) (GM : FnOk P w K mg base CX0 2 fM dM ["self", "letters", "start", "steps", "end"] (spMi C CM)) (bM : Binds K dM ["self", "letters", "start", "steps", "end"] []) (cRs : CalN P w K mg base "_law_ratios" 35 ["row"] (spRs C) fL dL) : FnOk P w K mg base CX0 36 f fd ["parts"] (spMaM C CM) := by
  refine F.ok scMa (fun vs H Q E h => ?_) (fun cdv A outer s H vs Q E hr h => ?_)
  · obtain ⟨N, q, m, rfl, _⟩ := h
    rfl
  · obtain ⟨N, q, m, rfl, hq, al, k1, k4, n1, kk⟩ := h
    have hr35 : Room 35 _ := hr
    have hr3 : Room 3 _ := hr.mono (by decide)
    obtain ⟨a, b, c, hy, ha, hb, hc⟩ := hq.partsK
    obtain ⟨ts, hts, lt, et⟩ := At.lstR hb
    refine ⟨_, pss_cons (ps_set (i := 1) scMa.nd rfl (.inl rfl) (pe_lst pa_nil))
      (pss_cons (ps_for PassesOwn.never rfl (pi_list (pe_ix ix_list (pv 0) pe_int (fun _ _ => rfl))) (pg_name (i := 2) scMa.nd rfl (.inl rfl))
        (pss_one (ps_expr (pe_bm PySem.F.plainAttrs_list PySem.F.slot_list_append PySem.F.type_list_append mt_append (pv 1) (pa_cons (pe_lc (own := [("row", 3)]) (g := gName 3) (tt := tYes) rfl scMa.nd (pi_list (pv 2)) (blkOk_by (N := ["parts", "steps", "step", "row"]) (sc := (defScope sMakeM)) (by decide +kernel)) (fun _ _ _ _ _ => (pg_name (i := 3) scMa.nd rfl (.inl rfl))) (fun _ _ _ _ _ => pts_nil) (fun _ _ _ _ _ => (pe_call cRs.G hr35 rfl cRs.m cRs.kp cRs.b .nil pass0 (pa_cons (pv 3) pa_nil)))) pa_nil)))))
      (pss_one (ps_ret (pe_make MM GM hr3 rfl TM.mgM bM .nil pass0 (pa_cons (pe_ix ix_list (pv 0) pe_int (fun _ _ => rfl)) (pa_cons (pe_call cRs.G hr35 rfl cRs.m cRs.kp cRs.b .nil pass0 (pa_cons (pe_ix ix_list (pv 0) pe_int (fun _ _ => rfl)) pa_nil)) (pa_cons (pv 1) (pa_cons (pe_call cRs.G hr35 rfl cRs.m cRs.kp cRs.b .nil pass0 (pa_cons (pe_ix ix_list (pv 0) pe_int (fun _ _ => rfl)) pa_nil)) pa_nil)))))))), ?_⟩
    refine ⟨(by show 0 ≤ sizeLine; decide), fun D nD => ?_⟩
    have nND := al.fresh nD
    have s0 : Same H (upd H D (.lst [])) := Same.upd nD
    refine ⟨_, rfl, q, _, 2, _, rfl, rfl, SqL.of (s0 _ _ hy), rfl, b, rfl, ⟨_, SqL.of (s0 _ _ hts)⟩, for_it (walk_list (K := K) (a := b) (xs := ts)) (fun i σ G => ∃ o2, σ = [some (.ref q), some (.ref D), o2, none] ∧ Bld C Emp N H D (rng i fun x => .lst (rng m.n fun i => ratsL m.n (m.t x i))) G) ⟨none, rfl, bld0 nD⟩ (fun i σ G _ h => by obtain ⟨_, _, bd⟩ := h; exact SqL.of (bd.k.same _ _ hts)) ?_ ?_⟩
    · rintro i x σ G1 G2 hi ⟨o2, rfl, bd⟩ ⟨rfl, hx⟩
      rw [lt] at hi
      obtain ⟨y, hy1, hy2⟩ := et i hi
      rw [hy1] at hx
      obtain rfl := Option.some.inj hx
      obtain ⟨st, rfl⟩ := hy2.lstV
      have hst := bd.old nD (fun _ z => z.elim) hy2
      obtain ⟨rs, hrs, lrs, ers⟩ := At.lstR hst
      have alG := bd.alc al
      obtain ⟨acc0, hacc0, _⟩ := bd.xs
      refine ⟨_, rfl, .inl ⟨rfl, _, SqL.of hacc0⟩, _, rfl, st, rfl, ⟨_, SqL.of hrs⟩, fun L nL => ?_⟩
      have nNL := alG.fresh nL
      refine lc_it (walk_list (K := K) (a := st) (xs := rs)) (fun j G => Bld C Emp (And1 N D) G2 L (rng j fun i' => ratsL m.n (m.t i i')) G) (bld0 nL) (fun j G _ b => SqL.of (b.k.same _ _ hrs)) ?_ ?_
      · rintro j y G3 G4 hj b2 ⟨rfl, hyj⟩
        rw [lrs] at hj
        obtain ⟨y', hy1', hy2'⟩ := ers j hj
        rw [hy1'] at hyj
        obtain rfl := Option.some.inj hyj
        obtain ⟨ln, rfl⟩ := hy2'.lstV
        refine ⟨rfl, _, rfl, And1 (And1 N D) L, ln, m.n, m.t i j, rfl, b2.old nL (fun _ z => z.elim) hy2', b2.alc alG, n1, fun r G5 s5 nr hr5 => ?_⟩
        obtain ⟨acc, h1, h2, h3⟩ := b2.step nL (Same.keep s5) (fun _ z => z.elim) id hr5
        refine ⟨acc, h1, by rw [h2, rng_len]; exact small1000 (by omega), ?_⟩
        rw [rng_succ]
        exact h3
      · rintro G3 b2
        rw [lrs] at b2
        obtain ⟨acc, h1, h2, h3⟩ := bd.step nD b2.k (fun _ z => z.elim) id (b2.done nNL)
        refine ⟨D, acc, _, rfl, rfl, h1, by rw [h2, rng_len]; exact small1000 (by omega), _, rfl, ?_⟩
        rw [rng_succ]
        exact h3
    · rintro σ G1 ⟨o2, rfl, bd⟩
      rw [lt] at bd
      have s1 := bd.k.same
      have hB := bd.done nND
      refine ⟨_, rfl, q, _, 0, _, rfl, rfl, SqL.of (s1 _ _ hy), rfl, _, rfl, q, _, 1, _, rfl, rfl, SqL.of (s1 _ _ hy), rfl, N, a, m.n, m.s, rfl, ha.same s1, al.keep bd.k, n1, fun rs H2 s2 nrs h2 => ?_⟩
      have s12 := s1.trans s2
      refine ⟨_, rfl, _, rfl, q, _, 3, _, rfl, rfl, SqL.of (s12 _ _ hy), rfl, N, c, m.n, m.e, rfl, hc.same s12, al.keep (Same.keep (N := Emp) s12), n1, fun re H3 s3 nre h3 => ?_⟩
      exact make_m (m := m) (s12.trans s3) (al.keep (Same.keep (N := Emp) (s12.trans s3))) ((h2.same s3).weak (Le.lstR fun _ _ => .refl _)) ((hB.same (s2.trans s3)).weak (Le.lstR fun _ _ => Le.lstR fun _ _ => Le.lstR fun _ _ => .refl _)) (h3.weak (Le.lstR fun _ _ => .refl _)) k1 k4 n1 kk
theorem ok_rbl {f fS C : Addr} {fd dS : FuncData} (F : Fun K "_law_row_by" "_law_row_by" sRowBy f fd) (T : TxtL mg) (cSb : CalN P w K mg base "_law_sum_by" 35 ["row", "other"] (spSb C) fS dS) : FnOk P w K mg base CX0 36 f fd ["row", "table", "width"] (spRbL C) := by
  refine F.ok scRb (fun vs H Q E h => ?_) (fun cdv A outer s H vs Q E hr h => ?_)
  · obtain ⟨N, p, q, h, w, w2, u, U, rfl, _⟩ := h
    rfl
  · obtain ⟨N, p, q, h, w, w2, u, U, rfl, hp, hq, al, h1, w1, e2, zu, zU, kk⟩ := h
    have hr35 : Room 35 _ := hr
    obtain ⟨xs, hx, lx, ex⟩ := At.lstR hq
    obtain ⟨us, hu, lu, eu⟩ := At.lstR hp
    refine ⟨_, pss_one (ps_ret (pe_lc (own := [("place", 3)]) (g := gName 3) (tt := tYes) rfl scRb.nd (pi_range1 (by rfl) T.range (pa_cons (pv 2) pa_nil)) (blkOk_by (N := ["row", "table", "width", "place", "k"]) (sc := (defScope sRowBy)) (by decide +kernel)) (fun _ _ _ _ _ => (pg_name (i := 3) scRb.nd rfl (.inr rfl))) (fun _ _ _ _ _ => pts_nil) (fun _ _ _ _ _ => (pe_call cSb.G hr35 rfl cSb.m cSb.kp cSb.b .nil pass0 (pa_cons (pv 0) (pa_cons (pe_lc (own := [("k", 4)]) (g := gName 4) (tt := tYes) rfl scRb.nd (pi_range1 (by rfl) T.range (pa_cons (pe_callB (show CallR _ (.builtin "len") (rLenS K) from call_len_seqK) (by rfl) T.len PySem.boot_len (pa_cons (pv 0) pa_nil)) pa_nil)) (blkOk_by (N := ["row", "table", "width", "place", "k"]) (sc := outRb0) (by decide +kernel)) (fun _ _ _ _ _ => (pg_name (i := 4) scRb.nd rfl (.inl rfl))) (fun _ _ _ _ _ => pts_nil) (fun _ _ _ _ _ => (pe_ix (show IxR _ (rIxL K) from ix_list) (pe_ix (show IxR _ (rIxL K) from ix_list) (pv 1) (pv 4) (fun _ _ => rfl)) (pv 3) (fun _ _ => rfl)))) pa_nil)))))), ?_⟩
    refine ⟨_, rfl, _, rfl, by omega, by omega, fun D nD => ?_⟩
    have nND := al.fresh nD
    refine lc_it (walk_range (lo := 0) (n := w)) (fun i G => Bld C Emp N H D (rng i fun j => prD (led h u U j)) G) (bld0 nD) (fun _ _ _ _ => trivial) ?_ ?_
    · rintro j x G1 G2 hj bd ⟨rfl, rfl⟩
      have alG := bd.alc al
      have hx1 := bd.k.same _ _ hx
      have hu1 := bd.k.same _ _ hu
      refine ⟨rfl, _, rfl, _, rfl, p, us, rfl, .inl (SqL.of hu1), _, rfl, by rw [lu]; omega, by rw [lu]; omega, fun D2 nD2 => ?_⟩
      have nN2 := alG.fresh nD2
      refine lc_it (walk_range (lo := 0) (n := us.length)) (fun i G => Bld C Emp (And1 N D) G2 D2 (rng i fun i => prD (U i j)) G) (bld0 nD2) (fun _ _ _ _ => trivial) ?_ ?_
      · rintro i y G3 G4 hi b2 ⟨rfl, rfl⟩
        rw [lu] at hi
        obtain ⟨y', hy', hd⟩ := ex i hi
        have hd2 := b2.old nD2 (fun _ z => z.elim) (bd.old nD (fun _ z => z.elim) hd)
        obtain ⟨l, rfl⟩ := hd2.lstV
        obtain ⟨ys, hys, lys, eys⟩ := At.lstR hd2
        have hj2 : j < w2 := by rw [e2 i hi]; exact hj
        obtain ⟨z, hz, hzd⟩ := eys j hj2
        refine ⟨rfl, _, rfl, _, rfl, q, _, _, _, rfl, rfl, SqL.of (b2.k.same _ _ hx1), at_of (Int.zero_add _) hy', _, rfl, l, _, _, _, rfl, rfl, SqL.of hys, at_of (Int.zero_add _) hz, ?_⟩
        obtain ⟨acc, a1, a2, a3⟩ := b2.step nD2 Keep.refl (fun _ z => z.elim) id hzd
        refine ⟨acc, a1, by rw [a2, rng_len]; exact small1000 (by omega), ?_⟩
        rw [rng_succ]
        exact a3
      · rintro G3 b2
        rw [lu] at b2
        have hcol := b2.done nN2
        have hrow := (bd.old nD (fun _ z => z.elim) hp).same b2.k.same
        have zc : RowB h 6000 7000 fun i => U i j := by
          by_cases h0 : h = 0
          · subst h0
            exact ⟨1, by decide, show (1 : Int).natAbs < 2 ^ 6000 by exact Nat.one_lt_two_pow (by decide), fun j hj => absurd hj (by omega)⟩
          · exact zU.col (by rw [e2 0 (by omega)]; exact hj)
        refine ⟨And1 N D, p, D2, h, h, u, fun i => U i j, rfl, hrow, hcol, alG.keep b2.k, Nat.le_refl _, h1, dotOk_row h1 zu zc, fun r G4 s4 hr4 => ?_⟩
        obtain ⟨acc, a1, a2, a3⟩ := bd.step nD (b2.k.trans (Same.keep s4)) (fun _ z => z.elim) id hr4
        refine ⟨acc, a1, by rw [a2, rng_len]; exact small1000 (by omega), ?_⟩
        rw [rng_succ]
        exact a3
    · rintro G1 bd
      exact kk D G1 bd.k.same nD (bd.done nND)
end
end RX

set_option Elab.async false
set_option maxRecDepth 100000
namespace RX
open PySem L2 LX VA VM VN EB
open RQ (Hg Bt)
abbrev sJudge : Stmt := topS 62
theorem scJu : FnScope ["first", "second", "table", "size", "width", "letter", "at", "ahead", "row"] ["first", "second", "table"] (defScope sJudge) := ⟨rfl, rfl, rfl, by decide +kernel, rfl, by decide +kernel, by decide +kernel⟩
abbrev sHolds : Stmt := topS 66
theorem scHo : FnScope ["first", "second", "table", "actual"] ["first", "second", "table"] (defScope sHolds) := ⟨rfl, rfl, rfl, by decide +kernel, rfl, by decide +kernel, by decide +kernel⟩
def pyP (q : Rat) : PyData := .tuple [.int q.num, .int (q.den : Int)]
def pyL (w : Nat) (u : Nat → Rat) : PyData := .list ((List.range w).map fun j => pyP (u j))
theorem dp_map {K : PySem.W.Frag} {H : Hp} {f : Nat → PyData} {g : Nat → V} : ∀ {l : List Nat}, (∀ i ∈ l, Dp K H (g i) (f i)) → DpAll K H (l.map g) (l.map f)
  | [], _ => .nil
  | i :: l, h => .cons (h i List.mem_cons_self) (dp_map fun j hj => h j (List.mem_cons_of_mem _ hj))
theorem dp_pr {K : PySem.W.Frag} {H : Hp} {p : Addr} {q : Rat} (h : PrQ H p q) : Dp K H (.ref p) (pyP q) := .tup (SqT.of h) (.cons (.int _) (.cons (.int _) .nil))
theorem list_range {α : Type} (d : α) : ∀ (xs : List α) , xs = (List.range xs.length).map fun i => (xs[i]?).getD d := fun xs => by
  refine List.ext_getElem? fun i => ?_
  rw [List.getElem?_map]
  by_cases h : i < xs.length
  · rw [List.getElem?_range h, List.getElem?_eq_getElem h]
    simp [h]
  · rw [List.getElem?_eq_none (by omega), List.getElem?_eq_none (by rw [List.length_range]; omega)]
    rfl
theorem dp_row {K : PySem.W.Frag} {C : Addr} {N : Addr → Prop} {H : Hp} {p : Addr} {n : Nat} {u : Nat → Rat} (h : At C N H (.ref p) (prL n u)) : Dp K H (.ref p) (pyL n u) := by
  obtain ⟨xs, hx, l, e⟩ := At.lstR h
  refine .lst (SqL.of hx) ?_
  have e0 := list_range V.non xs
  rw [l] at e0
  rw [e0]
  refine dp_map fun i hi => ?_
  obtain ⟨y, hy, hd⟩ := e i (List.mem_range.mp hi)
  rw [hy]
  obtain ⟨a, rfl, ha, _⟩ := hd.pair
  exact dp_pr ha
theorem lay_map {f : Nat → PyData} (h : ∀ i, (f i).canLay0 = true) : ∀ l : List Nat, PyData.canLayAll0 (l.map f) = true
  | [] => by simp [PyData.canLayAll0]
  | i :: l => by simp [PyData.canLayAll0, h i, lay_map h l]
theorem depth_map {f : Nat → PyData} {k : Nat} (h : ∀ i, (f i).depth ≤ k) : ∀ l : List Nat, PyData.depthAll (l.map f) ≤ k
  | [] => by simp [PyData.depthAll]
  | i :: l => by
    have h1 := h i
    have h2 := depth_map h l
    simp only [List.map_cons, PyData.depthAll]
    omega
theorem pyP_ok (q : Rat) : (pyP q).canLay0 = true ∧ (pyP q).depth ≤ 1 := ⟨by simp [pyP, PyData.canLay0, PyData.canLayAll0], by simp [pyP, PyData.depth, PyData.depthAll]⟩
theorem pyL_sh (w : Nat) (u : Nat → Rat) : SeqAt.shaped (pyL w u) = true := by
  show ((pyL w u).canLay0 && decide ((pyL w u).depth ≤ 64)) = true
  rw [Bool.and_eq_true]
  refine ⟨?_, decide_eq_true ?_⟩
  · unfold pyL
    simp only [PyData.canLay0]
    exact lay_map (fun i => (pyP_ok _).1) _
  · unfold pyL
    simp only [PyData.depth]
    have := depth_map (f := fun j => pyP (u j)) (k := 1) (fun i => (pyP_ok _).2) (List.range w)
    omega
theorem eqv_pr (p q : Rat) : PyData.eqv (pyP p) (pyP q) = tru (p = q) := by
  have e : PyData.eqv (pyP p) (pyP q) = (p.num == q.num && ((p.den : Int) == (q.den : Int))) := by simp [pyP, PyData.eqv, PyData.eqvAll]
  rw [e]
  by_cases z : p = q
  · rw [tru_t z, z]; simp
  · rw [tru_f z]
    refine Bool.eq_false_iff.mpr fun y => ?_
    rw [Bool.and_eq_true, beq_iff_eq, beq_iff_eq] at y
    exact z (Rat.ext y.1 (by have := y.2; omega))
theorem eqv_maps {f g : Nat → PyData} : ∀ l : List Nat, PyData.eqvAll (l.map f) (l.map g) = l.all fun i => PyData.eqv (f i) (g i)
  | [] => by simp [PyData.eqvAll]
  | i :: l => by simp [PyData.eqvAll, eqv_maps l]
theorem eqv_row {w : Nat} {f g : Nat → Rat} : PyData.eqv (pyL w f) (pyL w g) = tru (∀ j, j < w → f j = g j) := by
  have e : PyData.eqv (pyL w f) (pyL w g) = PyData.eqvAll ((List.range w).map fun j => pyP (f j)) ((List.range w).map fun j => pyP (g j)) := by simp [pyL, PyData.eqv]
  rw [e, eqv_maps, ← all_truP (p := fun j => f j = g j)]
  congr 1
  funext j
  exact eqv_pr _ _
theorem lists_ne {C : Addr} {K : PySem.W.Frag} {N N' : Addr → Prop} {H : Hp} {a b : Addr} {w : Nat} {f g : Nat → Rat} {Q : VK} (h : At C N H (.ref a) (prL w f)) (k : At C N' H (.ref b) (prL w g)) (z : Q (.bl (!tru (∀ j, j < w → f j = g j))) H) : rNeD K (.ref a) (.ref b) H Q :=
  ⟨_, _, dp_row h, dp_row k, pyL_sh _ _, pyL_sh _ _, by rw [eqv_row]; exact z⟩
def spJu (C : Addr) : Sp := fun vs H Q _ => ∃ (N : Addr → Prop) (p1 p2 q : Addr) (m1 m2 : Mc) (h w : Nat) (U : Nat → Nat → Rat), vs = [.ref p1, .ref p2, .ref q] ∧ At C N H (.ref p1) (partsK m1) ∧ At C N H (.ref p2) (partsK m2) ∧ At C N H (.ref q) (prT h w U) ∧ Alc N H ∧ h ≤ 1000 ∧ w ≤ 1000 ∧ m1.k = m2.k ∧ m1.k ≤ 4 ∧ m1.n ≤ 1000 ∧ m2.n ≤ 1000 ∧ MacB m1 ∧ MacB m2 ∧ TabB h w 6000 7000 U ∧
  ∀ (H' : Hp), Same H H' → Q (.bl (tru (Carry m1 m2 h w U))) H'
section
variable {P : Program} {w : World} {K : PySem.W.Frag} {mg : Str → Option Value} {base : Heap}
theorem ok_ju {f fS fR C : Addr} {fd dS dR : FuncData} (F : Fun K "_law_judge" "_law_judge" sJudge f fd) (T : TxtL mg) (mall : mg "all" = none) (cSb : CalN P w K mg base "_law_sum_by" 35 ["row", "other"] (spSb C) fS dS) (cRb : CalN P w K mg base "_law_row_by" 36 ["row", "table", "width"] (spRbL C) fR dR) : FnOk P w K mg base CX0 37 f fd ["first", "second", "table"] (spJu C) := by
  refine F.ok scJu (fun vs H Q E h => ?_) (fun cdv A outer s H vs Q E hr h => ?_)
  · obtain ⟨N, p1, p2, q, m1, m2, h, w, U, rfl, _⟩ := h
    rfl
  · obtain ⟨N, p1, p2, q, m1, m2, h, w, U, rfl, M1, M2, hq, al, h1, w1, ek, k4, n1, n2, b1, b2, bU, kk⟩ := h
    have hr36 : Room 36 _ := hr
    have hr35 : Room 35 _ := hr.mono (by decide)
    have hru := hr.units
    obtain ⟨xs, hx, lx, ex⟩ := At.lstR hq
    obtain ⟨a1, t1, e1, hy1, hS1, hT1, hE1⟩ := M1.partsK
    obtain ⟨a2, t2, e2, hy2, hS2, hT2, hE2⟩ := M2.partsK
    obtain ⟨xa1, hxa1, la1, _⟩ := At.lstR hS1
    obtain ⟨xa2, hxa2, la2, _⟩ := At.lstR hS2
    have no : ∀ H', Same H H' → ¬ Carry m1 m2 h w U → Q (.bl false) H' := fun H' s z => by
      have := kk H' s
      rw [tru_f z] at this
      exact this
    refine ⟨_, pss_cons (ps_set (i := 3) scJu.nd rfl (.inl rfl) (pe_callB call_len_seq (by rfl) T.len PySem.boot_len (pa_cons (pe_ix ix_list (pv 0) pe_int (fun _ _ => rfl)) pa_nil)))
      (pss_cons (ps_set (i := 4) scJu.nd rfl (.inr rfl) (pe_callB call_len_seq (by rfl) T.len PySem.boot_len (pa_cons (pe_ix ix_list (pv 1) pe_int (fun _ _ => rfl)) pa_nil)))
      (C8.pss_cut (ps_if (PW.pt (pw_or (pt_cmpR op_ne (pe_callB call_len_seq (by rfl) T.len PySem.boot_len (pa_cons (pv 2) pa_nil)) (pv 3) (nomark _)) (pw_or1 (pt_not (pt_val (pe_callB (cr_all rfl) (by rfl) mall (by decide +kernel) (pa_cons (pe_lc (own := [("row", 8)]) (g := gName 8) (tt := tYes) rfl scJu.nd (pi_list (pv 2)) (blkOk_by (N := ["first", "second", "table", "size", "width", "letter", "at", "ahead", "row"]) (sc := (defScope sJudge)) (by decide +kernel)) (fun _ _ _ _ _ => (pg_name (i := 8) scJu.nd rfl (.inl rfl))) (fun _ _ _ _ _ => pts_nil) (fun _ _ _ _ _ => (pe_cmpR op_eq (pe_callB (show CallR _ (.builtin "len") (rLenS K) from call_len_seqK) (by rfl) T.len PySem.boot_len (pa_cons (pv 8) pa_nil)) (pv 4) (nomark _)))) pa_nil)))))))
        (pss_one (ps_ret pe_bl))
        pss_nil)
      (pss_cons (ps_if (pt_cmpR (show OpR _ _ (rNeD K) from op_neD hru) (pe_call cRb.G hr36 rfl cRb.m cRb.kp cRb.b .nil pass0 (pa_cons (pe_ix ix_list (pv 0) pe_int (fun _ _ => rfl)) (pa_cons (pv 2) (pa_cons (pv 4) pa_nil)))) (pe_ix ix_list (pv 1) pe_int (fun _ _ => rfl)) (nomark _))
        (pss_one (ps_ret pe_bl))
        pss_nil)
      (pss_cons (ps_if (pt_cmpR (show OpR _ _ (rNeD K) from op_neD hru) (pe_lc (own := [("row", 8)]) (g := gName 8) (tt := tYes) rfl scJu.nd (pi_list (pv 2)) (blkOk_by (N := ["first", "second", "table", "size", "width", "letter", "at", "ahead", "row"]) (sc := (defScope sJudge)) (by decide +kernel)) (fun _ _ _ _ _ => (pg_name (i := 8) scJu.nd rfl (.inl rfl))) (fun _ _ _ _ _ => pts_nil) (fun _ _ _ _ _ => (pe_call cSb.G hr35 rfl cSb.m cSb.kp cSb.b .nil pass0 (pa_cons (pv 8) (pa_cons (pe_ix (show IxR _ (rIxL K) from ix_list) (pv 1) pe_int (fun _ _ => rfl)) pa_nil))))) (pe_ix ix_list (pv 0) pe_int (fun _ _ => rfl)) (nomark _))
        (pss_one (ps_ret pe_bl))
        pss_nil)
      (pss_cons (ps_for PassesOwn.never rfl (pi_range1 (by rfl) T.range (pa_cons (pe_ix ix_list (pv 0) pe_int (fun _ _ => rfl)) pa_nil)) (pg_name (i := 5) scJu.nd rfl (.inl rfl))
        (pss_one (ps_for PassesOwn.never rfl (pi_range1 (by rfl) T.range (pa_cons (pv 3) pa_nil)) (pg_name (i := 6) scJu.nd rfl (.inl rfl))
          (pss_cons (ps_set (i := 7) scJu.nd rfl (.inl rfl) (pe_call cRb.G hr36 rfl cRb.m cRb.kp cRb.b .nil pass0 (pa_cons (pe_ix ix_list (pe_ix ix_list (pe_ix ix_list (pv 0) pe_int (fun _ _ => rfl)) (pv 5) (fun _ _ => rfl)) (pv 6) (fun _ _ => rfl)) (pa_cons (pv 2) (pa_cons (pv 4) pa_nil)))))
          (pss_one (ps_if (pt_cmpR (show OpR _ _ (rNeD K) from op_neD hru) (pv 7) (pe_call cRb.G hr36 rfl cRb.m cRb.kp cRb.b .nil pass0 (pa_cons (pe_ix ix_list (pv 2) (pv 6) (fun _ _ => rfl)) (pa_cons (pe_ix ix_list (pe_ix ix_list (pv 1) pe_int (fun _ _ => rfl)) (pv 5) (fun _ _ => rfl)) (pa_cons (pv 4) pa_nil)))) (nomark _))
            (pss_one (ps_ret pe_bl))
            pss_nil))))))
      (pss_one (ps_ret pe_bl))))))), ?_⟩
    refine ⟨_, rfl, p1, _, 1, _, rfl, rfl, SqL.of hy1, rfl, a1, xa1, rfl, .inl (SqL.of hxa1), ?_⟩
    refine ⟨_, rfl, p2, _, 1, _, rfl, rfl, SqL.of hy2, rfl, a2, xa2, rfl, .inl (SqL.of hxa2), ?_⟩
    rw [la1, la2]
    refine ⟨fun σ' H' => σ' = [some (.ref p1), some (.ref p2), some (.ref q), some (.int (m1.n : Int)), some (.int (m2.n : Int)), none, none, none, none] ∧ Same H H' ∧ h = m1.n ∧ ∀ i, i < h → w = m2.n, ?_, ?_⟩
    · refine ⟨_, rfl, q, xs, rfl, .inl (SqL.of hx), _, rfl, rfl, _, rfl, ?_⟩
      rw [lx, nat_ne]
      by_cases c1 : h = m1.n
      · refine itF (by rw [decide_eq_true c1]; rfl) ?_
        refine ⟨_, rfl, q, rfl, ⟨_, SqL.of hx⟩, fun D nD => ?_⟩
        refine lc_it (walk_list (K := K) (a := q) (xs := xs)) (fun i G => G D = some (.lst ((List.range i).map fun _ => V.bl (decide (w = m2.n)))) ∧ Same H G) ⟨upd_same, Same.upd nD⟩ (fun i G _ b => SqL.of (b.2 _ _ hx)) ?_ ?_
        · rintro i y G1 G2 hi ⟨hD, s1⟩ ⟨rfl, hy⟩
          rw [lx] at hi
          obtain ⟨y', hy', hd⟩ := ex i hi
          rw [hy'] at hy
          obtain rfl := Option.some.inj hy
          obtain ⟨l, rfl⟩ := (hd.same s1).lstV
          obtain ⟨ys, hys, lys, _⟩ := At.lstR (hd.same s1)
          refine ⟨rfl, _, rfl, l, ys, rfl, .inl (SqL.of hys), _, rfl, rfl, ?_⟩
          rw [lys, nat_ne]
          refine ⟨_, hD, bls_len (by omega), ?_, fun c o hc => ?_⟩
          · rw [upd_same, blsR (f := fun _ => decide (w = m2.n))]
          · rw [upd_ne (ne_of_none hc nD)]
            exact s1 _ _ hc
        · rintro G1 ⟨hD, s1⟩
          rw [lx] at hD
          refine ⟨D, (List.range h).map fun _ => decide (w = m2.n), rfl, SqL.of (by rw [hD, List.map_map]; rfl), _, rfl, ?_⟩
          rw [allR]
          by_cases c2 : 0 < h ∧ w ≠ m2.n
          · have e0 : (List.range h).all (fun _ => decide (w = m2.n)) = false := Bool.eq_false_iff.mpr fun y => c2.2 (of_decide_eq_true (List.all_eq_true.mp y 0 (List.mem_range.mpr c2.1)))
            refine itT (by rw [e0]; rfl) ?_
            exact no G1 s1 fun z => c2.2 (z.2.1 0 c2.1)
          · have c3 : ∀ i, i < h → w = m2.n := fun i hi => Decidable.byContradiction fun y => c2 ⟨by omega, y⟩
            have e0 : (List.range h).all (fun _ => decide (w = m2.n)) = true := List.all_eq_true.mpr fun j hj => decide_eq_true (c3 j (List.mem_range.mp hj))
            refine itF (by rw [e0]; rfl) ?_
            exact ⟨rfl, s1, c1, c3⟩
      · refine itT (by rw [decide_eq_false c1]; rfl) ?_
        exact no H (Same.refl H) fun z => c1 z.1
    · rintro σ' H1 ⟨rfl, s1, eh, ew⟩
      subst eh
      have alS : ∀ {G : Hp}, Same H G → Alc N G := fun s => al.keep (Same.keep (N := Emp) s)
      refine ⟨_, rfl, p1, _, 1, _, rfl, rfl, SqL.of (s1 _ _ hy1), rfl, _, rfl, _, rfl, N, a1, q, m1.n, m2.n, w, m1.s, U, rfl, hS1.same s1, hq.same s1, alS s1, n1, n2, ew, b1.s, bU, fun c1 G2 s2 _ hc1 => ?_⟩
      have s2' := s1.trans s2
      refine ⟨_, rfl, p2, _, 1, _, rfl, rfl, SqL.of (s2' _ _ hy2), rfl, ?_⟩
      refine lists_ne hc1 (hS2.same s2') ⟨_, rfl, ?_⟩
      by_cases c3 : ∀ j, j < m2.n → led m1.n m1.s U j = m2.s j
      · refine itF (by rw [tru_t c3]; rfl) ?_
        have hx3 := s2' _ _ hx
        refine ⟨_, rfl, q, rfl, ⟨_, SqL.of hx3⟩, fun D nD => ?_⟩
        have al3 := alS s2'
        have nND := al3.fresh nD
        refine lc_it (walk_list (K := K) (a := q) (xs := xs)) (fun i G => Bld C Emp N G2 D (rng i fun i => prD (dot (U i) m2.e m2.n)) G) (bld0 nD) (fun i G _ b => SqL.of (b.k.same _ _ hx3)) ?_ ?_
        · rintro i y G4 G5 hi bd ⟨rfl, hy⟩
          rw [lx] at hi
          obtain ⟨y', hy', hd⟩ := ex i hi
          rw [hy'] at hy
          obtain rfl := Option.some.inj hy
          obtain ⟨l, rfl⟩ := hd.lstV
          have s5 := s2'.trans bd.k.same
          have hl := bd.old nD (fun _ z => z.elim) (hd.same s2')
          have he := bd.old nD (fun _ z => z.elim) (hE2.same s2')
          have ewi := ew i hi
          subst ewi
          refine ⟨rfl, _, rfl, _, rfl, p2, _, 3, _, rfl, rfl, SqL.of (s5 _ _ hy2), rfl, And1 N D, l, e2, m2.n, m2.n, U i, m2.e, rfl, hl, he, bd.alc al3, Nat.le_refl _, n2, dotOk_row n2 (bU.row hi) b2.e, fun z G6 s6 hz => ?_⟩
          obtain ⟨acc, q1, q2, q3⟩ := bd.step nD (Same.keep s6) (fun _ z => z.elim) id hz
          refine ⟨acc, q1, by rw [q2, rng_len]; exact small1000 (by omega), ?_⟩
          rw [rng_succ]
          exact q3
        · rintro G4 bd
          rw [lx] at bd
          have s5 := s2'.trans bd.k.same
          refine ⟨_, rfl, p1, _, 3, _, rfl, rfl, SqL.of (s5 _ _ hy1), rfl, ?_⟩
          refine lists_ne (bd.done nND) (hE1.same s5) ⟨_, rfl, ?_⟩
          by_cases c4 : ∀ j, j < m1.n → dot (U j) m2.e m2.n = m1.e j
          · refine itF (by rw [tru_t c4]; rfl) ?_
            obtain ⟨us, hu, lu, eu⟩ := At.lstR hT1
            obtain ⟨vs, hv, lv, ev⟩ := At.lstR hT2
            refine ⟨_, rfl, p1, _, 0, _, rfl, rfl, SqL.of (s5 _ _ hy1), rfl, m1.k, rfl, by omega, by omega, for_range (n := m1.k) (fun x σ G => ∃ o5 o6 o7, σ = [some (.ref p1), some (.ref p2), some (.ref q), some (.int (m1.n : Int)), some (.int (m2.n : Int)), o5, o6, o7, none] ∧ Same H G ∧ ∀ y, y < x → ∀ i, i < m1.n → ∀ j, j < m2.n → led m1.n (m1.t y i) U j = led m2.n (U i) (m2.t y) j) ⟨none, none, none, rfl, s5, fun y hy => absurd hy (by omega)⟩ ?_ ?_⟩
            · rintro x σ G hx4 ⟨o5, o6, o7, rfl, s6, ih⟩
              refine ⟨_, rfl, m1.n, rfl, by omega, by omega, for_range (n := m1.n) (fun i σ G => ∃ o6 o7, σ = [some (.ref p1), some (.ref p2), some (.ref q), some (.int (m1.n : Int)), some (.int (m2.n : Int)), some (.int (0 + (x : Int))), o6, o7, none] ∧ Same H G ∧ ∀ y, y < i → ∀ j, j < m2.n → led m1.n (m1.t x y) U j = led m2.n (U y) (m2.t x) j) ⟨o6, o7, rfl, s6, fun y hy => absurd hy (by omega)⟩ ?_ ?_⟩
              · rintro i σ G7 hi ⟨o6, o7, rfl, s7, ih2⟩
                obtain ⟨v1, hv1, d1⟩ := eu x hx4
                obtain ⟨v2, hv2, d2⟩ := ev x (by omega)
                obtain ⟨st, rfl⟩ := d1.lstV
                obtain ⟨st2, rfl⟩ := d2.lstV
                obtain ⟨rs, hrs, lrs, ers⟩ := At.lstR d1
                obtain ⟨r1, hr1', dr1⟩ := ers i hi
                obtain ⟨rr, rfl⟩ := dr1.lstV
                obtain ⟨y', hy', hd⟩ := ex i hi
                obtain ⟨l, rfl⟩ := hd.lstV
                have ewi := ew i hi
                subst ewi
                refine ⟨_, rfl, p1, _, 2, _, rfl, rfl, SqL.of (s7 _ _ hy1), rfl, _, rfl, t1, _, _, _, rfl, rfl, SqL.of (s7 _ _ hu), at_of (Int.zero_add _) hv1, _, rfl, st, _, _, _, rfl, rfl, SqL.of (s7 _ _ hrs), at_of (Int.zero_add _) hr1', _, rfl, _, rfl, N, rr, q, m1.n, m2.n, m2.n, m1.t x i, U, rfl, dr1.same s7, hq.same s7, alS s7, n1, n2, fun _ _ => rfl, (b1.t x hx4).row hi, bU, fun c1 G8 s8 _ hc1 => ?_⟩
                have s8' := s7.trans s8
                refine ⟨_, rfl, _, rfl, _, rfl, q, _, _, _, rfl, rfl, SqL.of (s8' _ _ hx), at_of (Int.zero_add _) hy', _, rfl, p2, _, 2, _, rfl, rfl, SqL.of (s8' _ _ hy2), rfl, _, rfl, t2, _, _, _, rfl, rfl, SqL.of (s8' _ _ hv), at_of (Int.zero_add _) hv2, _, rfl, N, l, st2, m2.n, m2.n, m2.n, U i, m2.t x, rfl, hd.same s8', d2.same s8', alS s8', n2, n2, fun _ _ => rfl, bU.row hi, b2.t x (by omega), fun c2 G9 s9 _ hc2 => ?_⟩
                have s9' := s8'.trans s9
                refine lists_ne (hc1.same s9) hc2 ⟨_, rfl, ?_⟩
                by_cases c5 : ∀ j, j < m2.n → led m1.n (m1.t x i) U j = led m2.n (U i) (m2.t x) j
                · refine itF (by rw [tru_t c5]; rfl) ?_
                  refine ⟨_, _, rfl, s9', fun y hy => ?_⟩
                  by_cases e : y = i
                  · rw [e]; exact c5
                  · exact ih2 y (by omega)
                · refine itT (by rw [tru_f c5]; rfl) ?_
                  exact no _ s9' fun z => c5 (z.2.2.2.2 x hx4 i hi)
              · rintro σ G7 ⟨o6, o7, rfl, s7, ih2⟩
                refine ⟨_, _, _, rfl, s7, fun y hy => ?_⟩
                by_cases e : y = x
                · rw [e]; exact ih2
                · exact ih y (by omega)
            · rintro σ G ⟨o5, o6, o7, rfl, s6, ih⟩
              have := kk G s6
              rw [tru_t ⟨rfl, ew, c3, c4, ih⟩] at this
              exact this
          · refine itT (by rw [tru_f c4]; rfl) ?_
            exact no _ s5 fun z => c4 z.2.2.2.1
      · refine itT (by rw [tru_f c3]; rfl) ?_
        exact no _ s2' fun z => c3 z.2.2.1
end
end RX

set_option Elab.async false
set_option maxRecDepth 100000
namespace RX
open PySem L2 LX VA VM VN EB
open RQ (Hg Bt)
def spHo (C : Addr) : Sp := fun vs H Q _ => ∃ (N : Addr → Prop) (p1 p2 q : Addr) (m1 m2 : Mc) (h w : Nat) (U : Nat → Nat → Rat), vs = [.ref p1, .ref p2, .ref q] ∧ At C N H (.ref p1) (partsK m1) ∧ At C N H (.ref p2) (partsK m2) ∧ At C N H (.ref q) (prT h w U) ∧ Alc N H ∧ h ≤ 1000 ∧ w ≤ 1000 ∧ m1.k = m2.k ∧ 1 ≤ m1.k ∧ m1.k ≤ 4 ∧ m1.n ≤ 1000 ∧ m2.n ≤ 1000 ∧ MacB m1 ∧ MacB m2 ∧ TabB h w 6000 7000 U ∧
  ∀ (H' : Hp), Same H H' → Q (.bl true) H'
section
variable {P : Program} {w : World} {K : PySem.W.Frag} {mg : Str → Option Value} {base : Heap}
theorem ok_ho {f fM fT fI fJ C CM : Addr} {fd dM dT dI dJ : FuncData} (F : Fun K "_law_holds" "_law_holds" sHolds f fd) (T : TxtL mg) (cMa : CalN P w K mg base "_law_machine" 36 ["parts"] (spMaM C CM) fM dM) (cTb : CalN P w K mg base "_law_tables" 36 ["table"] (spTbs C) fT dT)
    (cIc : CalN P w K mg base "is_carry" 38 ["one", "other", "table"] (spIc C CM) fI dI) (cJu : CalN P w K mg base "_law_judge" 37 ["first", "second", "table"] (spJu C) fJ dJ) : FnOk P w K mg base CX0 39 f fd ["first", "second", "table"] (spHo C) := by
  refine F.ok scHo (fun vs H Q E h => ?_) (fun cdv A outer s H vs Q E hr h => ?_)
  · obtain ⟨N, p1, p2, q, m1, m2, h, w, U, rfl, _⟩ := h
    rfl
  · obtain ⟨N, p1, p2, q, m1, m2, h, w, U, rfl, M1, M2, hq, al, h1, w1, ek, k1, k4, n1, n2, b1, b2, bU, kk⟩ := h
    have hr38 : Room 38 _ := hr
    have hr37 : Room 37 _ := hr.mono (by decide)
    have hr36 : Room 36 _ := hr.mono (by decide)
    refine ⟨_, pss_cons (ps_set (i := 3) scHo.nd rfl (.inl rfl) (pe_call cIc.G hr38 rfl cIc.m cIc.kp cIc.b .nil pass0 (pa_cons (pe_call cMa.G hr36 rfl cMa.m cMa.kp cMa.b .nil pass0 (pa_cons (pv 0) pa_nil)) (pa_cons (pe_call cMa.G hr36 rfl cMa.m cMa.kp cMa.b .nil pass0 (pa_cons (pv 1) pa_nil)) (pa_cons (pe_call cTb.G hr36 rfl cTb.m cTb.kp cTb.b .nil pass0 (pa_cons (pv 2) pa_nil)) pa_nil)))))
      (pss_one (ps_ret (pe_and (pe_callB call_isi (by rfl) T.isi (by decide +kernel) (pa_cons (pv 3) (pa_cons (pe_bltn (v := .ty "bool") (by rfl) T.bool (by decide +kernel) rfl) pa_nil))) (pe_one (pe_cmpR op_eq (pv 3) (pe_call cJu.G hr37 rfl cJu.m cJu.kp cJu.b .nil pass0 (pa_cons (pv 0) (pa_cons (pv 1) (pa_cons (pv 2) pa_nil)))) (nomark _)))))), ?_⟩
    refine ⟨_, rfl, N, p1, m1, rfl, M1, al, k1, k4, n1, fun q1 ad1 H1 s1 _ nd1 hm1 => ?_⟩
    have al1 : Alc (And1 N ad1) H1 := (al.keep (Same.keep (N := Emp) s1)).and (by obtain ⟨xs, hx, _⟩ := hm1.av; rw [hx]; intro z; cases z)
    refine ⟨_, rfl, And1 N ad1, p2, m2, rfl, (M2.and nd1).same s1, al1, by omega, by omega, n2, fun q2 ad2 H2 s2 _ nd2 hm2 => ?_⟩
    have al2 : Alc (And1 (And1 N ad1) ad2) H2 := (al1.keep (Same.keep (N := Emp) s2)).and (by obtain ⟨xs, hx, _⟩ := hm2.av; rw [hx]; intro z; cases z)
    have hm1' := (hm1.and nd2).same s2
    have hq2 := (((hq.and nd1).same s1).and nd2).same s2
    refine ⟨_, rfl, And1 (And1 N ad1) ad2, q, h, w, U, rfl, hq2, al2, h1, w1, fun r H3 s3 hr3 => ?_⟩
    refine ⟨And1 (And1 N ad1) ad2, q1, ad1, q2, ad2, r, m1, m2, h, w, U, rfl, hm1'.same s3, hm2.same s3, hr3, al2.keep (Same.keep (N := Emp) s3), h1, w1, ek, b1, b2, bU, fun H4 s4 => ?_⟩
    have s := s1.trans (s2.trans (s3.trans s4))
    refine ⟨_, rfl, _, _, _, _, true, rfl, .ty "bool", .base (.bl _), rfl, true, rfl, iteT ?_⟩
    refine ⟨_, rfl, _, rfl, _, rfl, _, rfl, N, p1, p2, q, m1, m2, h, w, U, rfl, M1.same s, M2.same s, hq.same s, al.keep (Same.keep (N := Emp) s), h1, w1, ek, k4, n1, n2, b1, b2, bU, fun H5 s5 => ?_⟩
    refine ⟨rfl, ?_⟩
    have := kk H5 (s.trans s5)
    rw [decide_eq_true rfl]
    exact this
end
end RX

set_option Elab.async false
set_option maxRecDepth 100000
namespace RX
open PySem L2 LX VA VM VN EB
open RQ (Hg Bt)
/-! ### lists that are changed in place -/
/-- tuples stay, and so does all but what W holds -/
structure Fr (W : Addr → Prop) (H H' : Hp) : Prop where
  t : ∀ c xs, H c = some (.tup xs) → H' c = some (.tup xs)
  k : Keep W H H'
section
variable {W W' : Addr → Prop} {H H1 H' : Hp}
theorem Fr.refl : Fr W H H := ⟨fun _ _ h => h, Keep.refl⟩
theorem Fr.trans (x : Fr W H H1) (y : Fr W H1 H') : Fr W H H' := ⟨fun c xs h => y.t c xs (x.t c xs h), x.k.trans y.k⟩
theorem Same.fr (s : Same H H') : Fr W H H' := ⟨fun c xs h => s c _ h, Same.keep s⟩
theorem Fr.more (x : Fr W H H') (s : ∀ b, W b → W' b) : Fr W' H H' := ⟨x.t, x.k.more s⟩
theorem Fr.updL {D : Addr} {o : HO} {ys : List V} (h : W D) (l : H D = some (.lst ys)) : Fr W H (upd H D o) := ⟨fun c xs e => by
  rw [upd_ne (fun z => by rw [z, l] at e; cases e)]
  exact e, Keep.upd h⟩
theorem Fr.but {a cl : Addr} (b : But a H H') (f : FeedAt H a cl) (f' : FeedAt H' a cl) : Fr (K1 a) H H' := ⟨fun c xs h => b c _ h (fun z => by
  obtain ⟨_, _, _, _, _, f⟩ := f
  rw [z, f.hA] at h
  cases h), keep_feed b f'⟩
theorem Fr.get {b : Addr} {o : HO} (x : Fr W H H') (h : H b = some o) (n : ¬ W b) : H' b = some o := x.k.k b o h n
/-- what is new may be changed as well -/
theorem Fr.drop {D : Addr} (x : Fr (And1 W D) H H') (n : H D = none) : Fr W H H' := ⟨x.t, ⟨fun b o h m => x.k.k b o h fun z => z.elim m (fun e => by rw [e, n] at h; cases h), x.k.a⟩⟩
theorem Fr.dropS {F : Addr → Prop} (x : Fr W H H') (s : ∀ b, W b → F b ∨ H b = none) : Fr F H H' := ⟨x.t, ⟨fun b o h m => x.k.k b o h fun z => (s b z).elim m (fun e => by rw [e] at h; cases h), x.k.a⟩⟩
theorem FeedAt.fr {a cl : Addr} (f : FeedAt H a cl) (x : Fr W H H') (n : ¬ W a) (m : ¬ W cl) : FeedAt H' a cl := by
  obtain ⟨cs, i, p, t, s, f⟩ := f
  exact ⟨cs, i, p, t, s, x.get f.hA n, x.get f.hC m, f.ne, f.i0, f.p0, f.s0, f.s1, f.len, f.nn⟩
end
/-- a pair in S -/
def PrS (H : Hp) (S : Rat → Prop) (x : V) : Prop := ∃ p q, x = .ref p ∧ PrQ H p q ∧ S q
/-- a row of n pairs in S -/
structure RowM (H : Hp) (a : Addr) (n : Nat) (S : Rat → Prop) : Prop where
  ex : ∃ xs, H a = some (.lst xs) ∧ xs.length = n ∧ ∀ x ∈ xs, PrS H S x
section
variable {W : Addr → Prop} {H H' : Hp} {S S' : Rat → Prop} {n : Nat} {a : Addr}
theorem PrS.fr {x : V} (h : PrS H S x) (f : Fr W H H') : PrS H' S x := let ⟨p, q, e, h, s⟩ := h; ⟨p, q, e, f.t _ _ h, s⟩
theorem PrS.same {x : V} (h : PrS H S x) (f : Same H H') : PrS H' S x := h.fr (Same.fr (W := Emp) f)
theorem PrS.mono {x : V} (h : PrS H S x) (f : ∀ q, S q → S' q) : PrS H S' x := let ⟨p, q, e, h, s⟩ := h; ⟨p, q, e, h, f q s⟩
theorem RowM.fr (h : RowM H a n S) (f : Fr W H H') (m : ¬ W a) : RowM H' a n S := by
  obtain ⟨xs, h, l, e⟩ := h.ex
  exact ⟨xs, f.get h m, l, fun x hx => (e x hx).fr f⟩
theorem RowM.same (h : RowM H a n S) (f : Same H H') : RowM H' a n S := h.fr (Same.fr (W := Emp) f) id
theorem RowM.mono (h : RowM H a n S) (f : ∀ q, S q → S' q) : RowM H a n S' := by
  obtain ⟨xs, h, l, e⟩ := h.ex
  exact ⟨xs, h, l, fun x hx => (e x hx).mono f⟩
theorem RowM.there (h : RowM H a n S) : H a ≠ none := by
  obtain ⟨xs, h, _⟩ := h.ex
  rw [h]; intro z; cases z
theorem RowM.get {i : Nat} (h : RowM H a n S) (hi : i < n) : ∃ xs p q, H a = some (.lst xs) ∧ xs.length = n ∧ xs[i]? = some (.ref p) ∧ PrQ H p q ∧ S q := by
  obtain ⟨xs, h, l, e⟩ := h.ex
  have hl : i < xs.length := by omega
  obtain ⟨p, q, e1, h1, s⟩ := e _ (List.getElem_mem hl)
  exact ⟨xs, p, q, h, l, by rw [List.getElem?_eq_getElem hl, e1], h1, s⟩
theorem mem_set {α : Type} {x y : α} : ∀ {xs : List α} {i : Nat}, y ∈ xs.set i x → y = x ∨ y ∈ xs
  | [], _, h => by simp at h
  | z :: xs, 0, h => by
    rcases List.mem_cons.mp h with h | h
    · exact .inl h
    · exact .inr (List.mem_cons_of_mem _ h)
  | z :: xs, i + 1, h => by
    rcases List.mem_cons.mp h with h | h
    · exact .inr (by rw [h]; exact List.mem_cons_self)
    · exact (mem_set h).imp id (List.mem_cons_of_mem _)
theorem RowM.set {xs : List V} {v : V} {i : Nat} (h : RowM H a n S) (hx : H a = some (.lst xs)) (hv : PrS H S v) : RowM (upd H a (.lst (xs.set i v))) a n S := by
  obtain ⟨ys, h, l, e⟩ := h.ex
  rw [hx] at h
  obtain rfl : xs = ys := by injection h with h; injection h
  have f : Fr (K1 a) H (upd H a (.lst (xs.set i v))) := Fr.updL rfl hx
  refine ⟨_, upd_same, by rw [List.length_set, l], fun x hx => ?_⟩
  rcases mem_set hx with rfl | hx
  · exact hv.fr f
  · exact (e x hx).fr f
theorem RowM.push {xs : List V} {v : V} (h : RowM H a n S) (hx : H a = some (.lst xs)) (hv : PrS H S v) : RowM (upd H a (.lst (xs ++ [v]))) a (n + 1) S := by
  obtain ⟨ys, h, l, e⟩ := h.ex
  rw [hx] at h
  obtain rfl : xs = ys := by injection h with h; injection h
  have f : Fr (K1 a) H (upd H a (.lst (xs ++ [v]))) := Fr.updL rfl hx
  refine ⟨_, upd_same, by rw [List.length_append, l]; rfl, fun x hx => ?_⟩
  rcases List.mem_append.mp hx with hx | hx
  · exact (e x hx).fr f
  · rw [List.mem_singleton.mp hx]
    exact hv.fr f
theorem choose_u {P : Nat → Rat → Prop} (h : ∀ j, j < n → ∃ q, P j q) : ∃ u : Nat → Rat, ∀ j, j < n → P j (u j) := by
  have g : ∀ j, ∃ q, j < n → P j q := fun j => by
    by_cases hj : j < n
    · obtain ⟨q, hq⟩ := h j hj
      exact ⟨q, fun _ => hq⟩
    · exact ⟨0, fun z => absurd z hj⟩
  exact ⟨fun j => (g j).choose, fun j hj => (g j).choose_spec hj⟩
theorem RowM.at {C : Addr} (h : RowM H a n S) : ∃ u : Nat → Rat, At C Emp H (.ref a) (prL n u) ∧ ∀ j, j < n → S (u j) := by
  obtain ⟨xs, h, l, e⟩ := h.ex
  obtain ⟨u, hu⟩ := choose_u (n := n) (P := fun j q => ∃ p, xs[j]? = some (.ref p) ∧ PrQ H p q ∧ S q) fun j hj => by
    have hl : j < xs.length := by omega
    obtain ⟨p, q, e1, h1, s⟩ := e _ (List.getElem_mem hl)
    exact ⟨q, p, by rw [List.getElem?_eq_getElem hl, e1], h1, s⟩
  refine ⟨u, .lst h id (by rw [rng_len, l]) fun i x d hx hd => ?_, fun j hj => ?_⟩
  · obtain ⟨hi, rfl⟩ := rng_lt hd
    obtain ⟨p, e1, h1, _⟩ := hu i hi
    rw [e1] at hx
    obtain rfl := Option.some.inj hx
    exact at_pair h1 id
  · obtain ⟨p, _, _, s⟩ := hu j hj
    exact s
/-- a list of pairs that is built of what is there -/
theorem RowM.of {C : Addr} {N : Addr → Prop} {u : Nat → Rat} (h : At C N H (.ref a) (prL n u)) (s : ∀ j, j < n → S (u j)) : RowM H a n S := by
  obtain ⟨xs, hx, l, e⟩ := At.lstR h
  refine ⟨xs, hx, l, fun x hx => ?_⟩
  obtain ⟨i, hi, rfl⟩ := List.getElem_of_mem hx
  obtain ⟨y, hy, hd⟩ := e i (by omega)
  rw [List.getElem?_eq_getElem hi] at hy
  rw [Option.some.inj hy]
  obtain ⟨p, rfl, hp, _⟩ := hd.pair
  exact ⟨p, _, rfl, hp, s i (by omega)⟩
end
/-- h rows of n pairs in S at p, at their addresses; all of them in O -/
structure TabR (H : Hp) (O : Addr → Prop) (p : Addr) (h n : Nat) (ra : Nat → Addr) (S : Rat → Prop) : Prop where
  hp : H p = some (.lst ((List.range h).map fun i => V.ref (ra i)))
  op : O p
  orr : ∀ i, i < h → O (ra i)
  ne : ∀ i, i < h → ra i ≠ p
  inj : ∀ i, i < h → ∀ j, j < h → ra i = ra j → i = j
  rows : ∀ i, i < h → RowM H (ra i) n S
  al : Alc O H
section
variable {W O O' : Addr → Prop} {H H' : Hp} {S S' : Rat → Prop} {h n : Nat} {p : Addr} {ra : Nat → Addr}
theorem TabR.fr (t : TabR H O p h n ra S) (f : Fr W H H') (m : ∀ b, O b → ¬ W b) : TabR H' O p h n ra S :=
  ⟨f.get t.hp (m _ t.op), t.op, t.orr, t.ne, t.inj, fun i hi => (t.rows i hi).fr f (m _ (t.orr i hi)), t.al.keep f.k⟩
theorem TabR.same (t : TabR H O p h n ra S) (f : Same H H') : TabR H' O p h n ra S := t.fr (Same.fr (W := Emp) f) fun _ _ => id
theorem TabR.mono (t : TabR H O p h n ra S) (f : ∀ q, S q → S' q) : TabR H O p h n ra S' := ⟨t.hp, t.op, t.orr, t.ne, t.inj, fun i hi => (t.rows i hi).mono f, t.al⟩
theorem TabR.into (t : TabR H O p h n ra S) (s : ∀ b, O b → O' b) (a : Alc O' H) : TabR H O' p h n ra S := ⟨t.hp, s _ t.op, fun i hi => s _ (t.orr i hi), t.ne, t.inj, t.rows, a⟩
theorem choose_U {P : Nat → (Nat → Rat) → Prop} (x : ∀ j, j < n → ∃ q, P j q) : ∃ u : Nat → Nat → Rat, ∀ j, j < n → P j (u j) := by
  have g : ∀ j, ∃ q, j < n → P j q := fun j => by
    by_cases hj : j < n
    · obtain ⟨q, hq⟩ := x j hj
      exact ⟨q, fun _ => hq⟩
    · exact ⟨fun _ => 0, fun z => absurd z hj⟩
  exact ⟨fun j => (g j).choose, fun j hj => (g j).choose_spec hj⟩
theorem TabR.at {C : Addr} (t : TabR H O p h n ra S) : ∃ U : Nat → Nat → Rat, At C Emp H (.ref p) (prT h n U) ∧ ∀ i, i < h → ∀ j, j < n → S (U i j) := by
  obtain ⟨U, hU⟩ := choose_U (n := h) (P := fun i u => At C Emp H (.ref (ra i)) (prL n u) ∧ ∀ j, j < n → S (u j)) fun i hi => (t.rows i hi).at
  refine ⟨U, .lst t.hp id (by rw [rng_len, List.length_map, List.length_range]) fun i x d hx hd => ?_, fun i hi => (hU i hi).2⟩
  obtain ⟨hi, rfl⟩ := rng_lt hd
  rw [List.getElem?_map, List.getElem?_range hi] at hx
  obtain rfl := Option.some.inj hx
  exact (hU i hi).1
theorem TabR.get {i : Nat} (hi : i < h) : ((List.range h).map fun i => V.ref (ra i))[i]? = some (.ref (ra i)) := by
  rw [List.getElem?_map, List.getElem?_range hi]
  rfl
end
end RX

set_option Elab.async false
set_option maxRecDepth 100000
namespace RX
open PySem L2 LX VA VM VN EB
open RQ (Hg Bt)
abbrev sRight : Stmt := topS 51
theorem scRi : FnScope ["rows", "deed", "kind", "at", "row", "first"] ["rows", "deed"] (defScope sRight) := ⟨rfl, rfl, rfl, by decide +kernel, rfl, by decide +kernel, by decide +kernel⟩
inductive Knd | add | scale | swap | none
def Knd.s : Knd → Str
  | .add => "add"
  | .scale => "scale"
  | .swap => "swap"
  | .none => "none"
/-- a deed: its kind, two places, a factor -/
structure DeedAt (H : Hp) (d : Addr) (kd : Knd) (i j : Nat) (f : Rat) : Prop where
  ex : ∃ fp, H d = some (.tup [.str kd.s, .int (i : Int), .int (j : Int), .ref fp]) ∧ PrQ H fp f
theorem DeedAt.fr {W : Addr → Prop} {H H' : Hp} {d : Addr} {kd : Knd} {i j : Nat} {f : Rat} (h : DeedAt H d kd i j f) (x : Fr W H H') : DeedAt H' d kd i j f := let ⟨fp, a, b⟩ := h.ex; ⟨fp, x.t _ _ a, x.t _ _ b⟩
def Fac (f : Rat) : Prop := f ≠ 0 ∧ f.num.natAbs ≤ 3 ∧ f.den ≤ 3
/-- one step of sizes -/
structure Stp (S S' : Rat → Prop) : Prop where
  hg : ∀ q, S q → HgQ q
  hp : ∀ f q, Fac f → S q → HgQ (f * q)
  up : ∀ q, S q → S' q
  ad : ∀ f x y, Fac f → S x → S y → S' (x + f * y)
  ml : ∀ f y, Fac f → S y → S' (f * y)
theorem Fac.hg {f : Rat} (h : Fac f) : HgQ f := ⟨⟨2, by decide, show f.num.natAbs < 2 ^ 2 by have := h.2.1; omega⟩, ⟨2, by decide, show ((f.den : Int)).natAbs < 2 ^ 2 by have := h.2.2; omega⟩⟩
theorem knd_ne {a b : Str} (h : (a == b) = false) : decide (V.str a = V.str b) = false := decide_eq_false fun z => by
  injection z with z
  rw [z] at h
  simp at h
theorem knd_eq {a : Str} : decide (V.str a = V.str a) = true := decide_eq_true rfl
def spRi (C : Addr) : Sp := fun vs H Q _ => ∃ (O : Addr → Prop) (p d : Addr) (h n : Nat) (ra : Nat → Addr) (S S' : Rat → Prop) (kd : Knd) (i j : Nat) (f : Rat), vs = [.ref p, .ref d] ∧ TabR H O p h n ra S ∧ DeedAt H d kd i j f ∧ i < n ∧ j < n ∧ h ≤ 1000 ∧ n ≤ 1000 ∧ Stp S S' ∧ Fac f ∧
  ∀ (H' : Hp), Fr O H H' → TabR H' O p h n ra S' → Q .non H'
/-- some rows are done -/
structure Mid (H : Hp) (p : Addr) (h n : Nat) (ra : Nat → Addr) (S S' : Rat → Prop) (k : Nat) : Prop where
  hp : H p = some (.lst ((List.range h).map fun i => V.ref (ra i)))
  a : ∀ i, i < k → i < h → RowM H (ra i) n S'
  b : ∀ i, k ≤ i → i < h → RowM H (ra i) n S
theorem Mid.same {H H' : Hp} {p : Addr} {h n k : Nat} {ra : Nat → Addr} {S S' : Rat → Prop} (m : Mid H p h n ra S S' k) (s : Same H H') : Mid H' p h n ra S S' k := ⟨s _ _ m.hp, fun i a b => (m.a i a b).same s, fun i a b => (m.b i a b).same s⟩
theorem Mid.step {H0 H H' : Hp} {O : Addr → Prop} {p : Addr} {h n k : Nat} {ra : Nat → Addr} {S S' : Rat → Prop} (m : Mid H p h n ra S S' k) (t : TabR H0 O p h n ra S) (hk : k < h) (f : Fr (K1 (ra k)) H H') (r : RowM H' (ra k) n S') : Mid H' p h n ra S S' (k + 1) := by
  refine ⟨f.get m.hp fun z => t.ne k hk z.symm, fun i h1 h2 => ?_, fun i h1 h2 => ?_⟩
  · by_cases e : i = k
    · rw [e]; exact r
    · exact (m.a i (by omega) h2).fr f fun z => e (t.inj i h2 k hk z)
  · exact (m.b i (by omega) h2).fr f fun z => absurd (t.inj i h2 k hk z) (by omega)
section
variable {P : Program} {w : World} {K : PySem.W.Frag} {mg : Str → Option Value} {base : Heap}
theorem ok_ri {f fP fB C : Addr} {fd dP dB : FuncData} (F : Fun K "_law_right" "_law_right" sRight f fd) (T : TxtL mg) (cPl : CalN P w K mg base "_law_plus" 34 ["one", "two"] (spPlu C) fP dP) (cBy : CalN P w K mg base "_law_by" 34 ["one", "two"] (spBy C) fB dB) : FnOk P w K mg base CX0 35 f fd ["rows", "deed"] (spRi C) := by
  refine F.ok scRi (fun vs H Q E h => ?_) (fun cdv A outer s H vs Q E hr h => ?_)
  · obtain ⟨O, p, d, h, n, ra, S, S', kd, i, j, f, rfl, _⟩ := h
    rfl
  · obtain ⟨O, p, d, h, n, ra, S, S', kd, i, j, g, rfl, t, hd, hi, hj, hh, hn, st, fa, kk⟩ := h
    have hr34 : Room 34 _ := hr
    obtain ⟨fp, hD, hF⟩ := hd.ex
    refine ⟨_, pss_cons (ps_set (i := 2) scRi.nd rfl (.inl rfl) (pe_ix ix_tup (pv 1) pe_int (fun _ _ => rfl)))
      (pss_one (ps_for PassesOwn.never rfl (pi_range1 (by rfl) T.range (pa_cons (pe_callB call_len_seq (by rfl) T.len PySem.boot_len (pa_cons (pv 0) pa_nil)) pa_nil)) (pg_name (i := 3) scRi.nd rfl (.inl rfl))
        (pss_cons (ps_set (i := 4) scRi.nd rfl (.inl rfl) (pe_ix ix_list (pv 0) (pv 3) (fun _ _ => rfl)))
        (pss_cons (ps_set (i := 5) scRi.nd rfl (.inl rfl) (pe_ix ix_list (pv 4) (pe_ix ix_tup (pv 1) pe_int (fun _ _ => rfl)) (fun _ _ => rfl)))
        (pss_cons (ps_if (pt_cmpR op_eq (pv 2) pe_str (nomark _))
          (pss_one (ps_asg (pe_call cPl.G hr34 rfl cPl.m cPl.kp cPl.b .nil pass0 (pa_cons (pe_ix ix_list (pv 4) (pe_ix ix_tup (pv 1) pe_int (fun _ _ => rfl)) (fun _ _ => rfl)) (pa_cons (pe_call cBy.G hr34 rfl cBy.m cBy.kp cBy.b .nil pass0 (pa_cons (pe_ix ix_tup (pv 1) pe_int (fun _ _ => rfl)) (pa_cons (pv 5) pa_nil))) pa_nil))) (pg_sub (pv 4) (pe_ix ix_tup (pv 1) pe_int (fun _ _ => rfl)) set_list)))
          pss_nil)
        (pss_cons (ps_if (pt_cmpR op_eq (pv 2) pe_str (nomark _))
          (pss_one (ps_asg (pe_call cBy.G hr34 rfl cBy.m cBy.kp cBy.b .nil pass0 (pa_cons (pv 5) (pa_cons (pe_ix ix_tup (pv 1) pe_int (fun _ _ => rfl)) pa_nil))) (pg_sub (pv 4) (pe_ix ix_tup (pv 1) pe_int (fun _ _ => rfl)) set_list)))
          pss_nil)
        (pss_one (ps_if (pt_cmpR op_eq (pv 2) pe_str (nomark _))
          (pss_cons (ps_asg (pe_ix ix_list (pv 4) (pe_ix ix_tup (pv 1) pe_int (fun _ _ => rfl)) (fun _ _ => rfl)) (pg_sub (pv 4) (pe_ix ix_tup (pv 1) pe_int (fun _ _ => rfl)) set_list))
          (pss_one (ps_asg (pv 5) (pg_sub (pv 4) (pe_ix ix_tup (pv 1) pe_int (fun _ _ => rfl)) set_list))))
          pss_nil)))))))), ?_⟩
    refine ⟨_, rfl, d, _, 0, _, rfl, rfl, SqT.of hD, rfl, ?_⟩
    refine ⟨_, rfl, p, _, rfl, .inl (SqL.of t.hp), _, rfl, by rw [List.length_map, List.length_range]; omega, by rw [List.length_map, List.length_range]; omega, for_range (n := ((List.range h).map fun i => V.ref (ra i)).length) (fun r σ G => ∃ o3 o4 o5, σ = [some (.ref p), some (.ref d), some (.str kd.s), o3, o4, o5] ∧ Fr O H G ∧ Mid G p h n ra S S' r) ⟨none, none, none, rfl, Fr.refl, t.hp, fun i a => absurd a (by omega), fun i _ b => t.rows i b⟩ ?_ ?_⟩
    · rintro r σ G hrr ⟨o3, o4, o5, rfl, f1, md⟩
      rw [List.length_map, List.length_range] at hrr
      have row := md.b r (Nat.le_refl _) hrr
      obtain ⟨xs, p1, q1, hx, lx, hx1, hp1, hs1⟩ := row.get hi
      obtain ⟨xs', p2, q2, hx', _, hx2, hp2, hs2⟩ := row.get hj
      rw [hx] at hx'
      obtain rfl : xs = xs' := by injection hx' with z; injection z
      have dG := f1.t _ _ hD
      have fG := f1.t _ _ hF
      have KO : ∀ b, K1 (ra r) b → O b := fun b z => by rw [z]; exact t.orr r hrr
      refine ⟨_, rfl, _, rfl, p, _, _, _, rfl, rfl, SqL.of md.hp, at_of (Int.zero_add _) (TabR.get hrr), ?_⟩
      refine ⟨_, rfl, _, rfl, d, _, 1, _, rfl, rfl, SqT.of dG, rfl, ra r, xs, _, _, rfl, rfl, SqL.of hx, at_of rfl hx1, ?_⟩
      cases kd with
      | add =>
        refine ⟨_, rfl, rfl, _, rfl, itT knd_eq ?_⟩
        refine ⟨_, rfl, _, rfl, d, _, 2, _, rfl, rfl, SqT.of dG, rfl, ra r, xs, _, _, rfl, rfl, SqL.of hx, at_of rfl hx2, _, rfl, d, _, 3, _, rfl, rfl, SqT.of dG, rfl, _, rfl, Emp, fp, p1, g, q1, rfl, at_pair fG id, at_pair hp1 id, alc_emp, fa.hg, st.hg _ hs1, fun r1 G1 s1 hr1 => ?_⟩
        refine ⟨Emp, p2, r1, q2, g * q1, rfl, at_pair (hp2.same s1) id, hr1, alc_emp, st.hg _ hs2, st.hp _ _ fa hs1, fun r2 G2 s2 hr2 => ?_⟩
        have s12 := s1.trans s2
        refine ⟨_, rfl, _, rfl, d, _, 2, _, rfl, rfl, SqT.of (s12 _ _ dG), rfl, ra r, xs, (j : Int), j, rfl, rfl, s12 _ _ hx, ixN_at rfl (by omega), ?_⟩
        have f2 : Fr (K1 (ra r)) G (upd G2 (ra r) (.lst (xs.set j (.ref r2)))) := (Same.fr s12).trans (Fr.updL rfl (s12 _ _ hx))
        have row2 : RowM (upd G2 (ra r) (.lst (xs.set j (.ref r2)))) (ra r) n S' := ((row.same s12).mono st.up).set (s12 _ _ hx) ⟨r2, _, rfl, at_pr hr2, st.ad _ _ _ fa hs2 hs1⟩
        refine ⟨_, rfl, rfl, _, rfl, itF (knd_ne rfl) ?_⟩
        refine ⟨_, rfl, rfl, _, rfl, itF (knd_ne rfl) ?_⟩
        exact ⟨_, _, _, rfl, f1.trans (f2.more KO), md.step t hrr f2 row2⟩
      | scale =>
        refine ⟨_, rfl, rfl, _, rfl, itF (knd_ne rfl) ?_⟩
        refine ⟨_, rfl, rfl, _, rfl, itT knd_eq ?_⟩
        refine ⟨_, rfl, _, rfl, d, _, 3, _, rfl, rfl, SqT.of dG, rfl, Emp, p1, fp, q1, g, rfl, at_pair hp1 id, at_pair fG id, alc_emp, st.hg _ hs1, fa.hg, fun r2 G2 s12 hr2 => ?_⟩
        refine ⟨_, rfl, _, rfl, d, _, 1, _, rfl, rfl, SqT.of (s12 _ _ dG), rfl, ra r, xs, (i : Int), i, rfl, rfl, s12 _ _ hx, ixN_at rfl (by omega), ?_⟩
        have f2 : Fr (K1 (ra r)) G (upd G2 (ra r) (.lst (xs.set i (.ref r2)))) := (Same.fr s12).trans (Fr.updL rfl (s12 _ _ hx))
        have row2 : RowM (upd G2 (ra r) (.lst (xs.set i (.ref r2)))) (ra r) n S' := ((row.same s12).mono st.up).set (s12 _ _ hx) ⟨r2, _, rfl, at_pr hr2, by rw [Rat.mul_comm]; exact st.ml _ _ fa hs1⟩
        refine ⟨_, rfl, rfl, _, rfl, itF (knd_ne rfl) ?_⟩
        exact ⟨_, _, _, rfl, f1.trans (f2.more KO), md.step t hrr f2 row2⟩
      | swap =>
        refine ⟨_, rfl, rfl, _, rfl, itF (knd_ne rfl) ?_⟩
        refine ⟨_, rfl, rfl, _, rfl, itF (knd_ne rfl) ?_⟩
        refine ⟨_, rfl, rfl, _, rfl, itT knd_eq ?_⟩
        refine ⟨_, rfl, _, rfl, d, _, 2, _, rfl, rfl, SqT.of dG, rfl, ra r, xs, _, _, rfl, rfl, SqL.of hx, at_of rfl hx2, _, rfl, _, rfl, d, _, 1, _, rfl, rfl, SqT.of dG, rfl, ra r, xs, (i : Int), i, rfl, rfl, hx, ixN_at rfl (by omega), ?_⟩
        have f2 : Fr (K1 (ra r)) G (upd G (ra r) (.lst (xs.set i (.ref p2)))) := Fr.updL rfl hx
        have row2 : RowM (upd G (ra r) (.lst (xs.set i (.ref p2)))) (ra r) n S' := (row.mono st.up).set hx ⟨p2, _, rfl, hp2, st.up _ hs2⟩
        have hx3 : (upd G (ra r) (.lst (xs.set i (.ref p2)))) (ra r) = some (.lst (xs.set i (.ref p2))) := upd_same
        generalize upd G (ra r) (.lst (xs.set i (.ref p2))) = G2 at *
        refine ⟨_, rfl, _, rfl, _, rfl, d, _, 2, _, rfl, rfl, SqT.of (f2.t _ _ dG), rfl, ra r, xs.set i (.ref p2), (j : Int), j, rfl, rfl, hx3, ixN_at rfl (by rw [List.length_set]; omega), ?_⟩
        have f3 : Fr (K1 (ra r)) G (upd G2 (ra r) (.lst ((xs.set i (.ref p2)).set j (.ref p1)))) := f2.trans (Fr.updL rfl hx3)
        exact ⟨_, _, _, rfl, f1.trans (f3.more KO), md.step t hrr f3 (row2.set hx3 ⟨p1, _, rfl, f2.t _ _ hp1, st.up _ hs1⟩)⟩
      | none =>
        refine ⟨_, rfl, rfl, _, rfl, itF (knd_ne rfl) ?_⟩
        refine ⟨_, rfl, rfl, _, rfl, itF (knd_ne rfl) ?_⟩
        refine ⟨_, rfl, rfl, _, rfl, itF (knd_ne rfl) ?_⟩
        exact ⟨_, _, _, rfl, f1, md.step t hrr Fr.refl (row.mono st.up)⟩
    · rintro σ G ⟨o3, o4, o5, rfl, f1, md⟩
      rw [List.length_map, List.length_range] at md
      exact kk G f1 ⟨md.hp, t.op, t.orr, t.ne, t.inj, fun i hi => md.a i hi hi, t.al.keep f1.k⟩
end
end RX

set_option Elab.async false
set_option maxRecDepth 100000
namespace RX
open PySem L2 LX VA VM VN EB
open RQ (Hg Bt)
abbrev sLeft : Stmt := topS 52
theorem scLe : FnScope ["rows", "deed", "kind", "factor", "first", "second", "less", "k", "number"] ["rows", "deed"] (defScope sLeft) := ⟨rfl, rfl, rfl, by decide +kernel, rfl, by decide +kernel, by decide +kernel⟩
theorem Fac.neg {f : Rat} (h : Fac f) : Fac (-f) := ⟨fun z => h.1 (by rw [← Rat.neg_neg f, z]; rfl), by rw [Rat.neg_num]; have := h.2.1; omega, by rw [Rat.neg_den]; exact h.2.2⟩
theorem num_ne {f : Rat} (h : f ≠ 0) : f.num ≠ 0 := fun z => h (RQ.num0.mp z)
theorem inv_eq {f : Rat} (h : f ≠ 0) : (((f.den : Int) : Int) : Rat) = f⁻¹ * ((f.num : Int) : Rat) := by
  rw [RQ.nd f, ← Rat.mul_assoc, Rat.inv_mul_cancel f h, Rat.one_mul]
theorem Fac.inv {f : Rat} (h : Fac f) : Fac f⁻¹ := by
  have e := inv_eq h.1
  obtain ⟨e1, e2⟩ := RQ.low (num_ne h.1) e
  refine ⟨fun z => h.1 (by rw [← Rat.inv_inv f, z]; exact Rat.inv_zero), ?_, ?_⟩
  · rw [← e1]
    have := RT.top_le (t := (f.den : Int)) (num_ne h.1)
    have := h.2.2
    omega
  · have h3 := RT.bot_le (t := (f.den : Int)) (num_ne h.1)
    rw [e2] at h3
    have := h.2.1
    omega
theorem Stp.ml2 {S S' : Rat → Prop} (s : Stp S S') {f y : Rat} (a : Fac f) (b : S y) : S' (y * f) := by
  rw [Rat.mul_comm]
  exact s.ml f y a b
theorem set_map {h i : Nat} {ra : Nat → Addr} {D : Addr} (hi : i < h) : ((List.range h).map fun r => V.ref (ra r)).set i (.ref D) = (List.range h).map fun r => V.ref (if r = i then D else ra r) := by
  refine List.ext_getElem? fun k => ?_
  rw [List.getElem?_set, List.getElem?_map, List.getElem?_map, List.length_map, List.length_range]
  by_cases e : i = k
  · subst e
    rw [if_pos rfl, if_pos hi, List.getElem?_range hi]
    simp
  · rw [if_neg e]
    by_cases hk : k < h
    · rw [List.getElem?_range hk]
      simp [Ne.symm e]
    · rw [List.getElem?_eq_none (by rw [List.length_range]; omega)]
      rfl
/-- a row is put in place of another -/
theorem TabR.put {H H' : Hp} {O : Addr → Prop} {p D : Addr} {h n i : Nat} {ra : Nat → Addr} {S : Rat → Prop} (t : TabR H O p h n ra S) (hi : i < h) (nD : H D = none) (s : Same H H') (r : RowM H' D n S) :
    TabR (upd H' p (.lst (((List.range h).map fun i => V.ref (ra i)).set i (.ref D)))) (And1 O D) p h n (fun r => if r = i then D else ra r) S := by
  have hp' := s _ _ t.hp
  have pD : D ≠ p := (ne_of_none t.hp nD).symm
  have f : Fr (K1 p) H' (upd H' p (.lst (((List.range h).map fun i => V.ref (ra i)).set i (.ref D)))) := Fr.updL rfl hp'
  have oD : ∀ k, k < h → ra k ≠ D := fun k hk z => by
    have := (t.rows k hk).there
    rw [z] at this
    exact this nD
  refine ⟨by rw [upd_same, set_map hi], .inl t.op, fun k hk => ?_, fun k hk => ?_, fun k hk l hl e => ?_, fun k hk => ?_, ?_⟩
  · show And1 O D (if k = i then D else ra k)
    split
    · exact .inr rfl
    · exact .inl (t.orr k hk)
  · show (if k = i then D else ra k) ≠ p
    split
    · exact pD
    · exact t.ne k hk
  · by_cases e1 : k = i
    · by_cases e2 : l = i
      · omega
      · rw [if_pos e1, if_neg e2] at e
        exact absurd e.symm (oD l hl)
    · by_cases e2 : l = i
      · rw [if_neg e1, if_pos e2] at e
        exact absurd e (oD k hk)
      · rw [if_neg e1, if_neg e2] at e
        exact t.inj k hk l hl e
  · show RowM _ (if k = i then D else ra k) n S
    split
    · exact r.fr f fun z => pD z
    · exact ((t.rows k hk).same s).fr f fun z => t.ne k hk z
  · exact ((t.al.keep (Same.keep (N := Emp) s)).and r.there).keep f.k
def spLe (C : Addr) : Sp := fun vs H Q _ => ∃ (O : Addr → Prop) (p d : Addr) (h n : Nat) (ra : Nat → Addr) (S S' : Rat → Prop) (kd : Knd) (i j : Nat) (f : Rat), vs = [.ref p, .ref d] ∧ TabR H O p h n ra S ∧ DeedAt H d kd i j f ∧ i < h ∧ j < h ∧ h ≤ 1000 ∧ n ≤ 1000 ∧ Stp S S' ∧ Fac f ∧
  ∀ (H' : Hp) (O' : Addr → Prop) (ra' : Nat → Addr), (∀ b, O' b → O b ∨ H b = none) → Fr O H H' → TabR H' O' p h n ra' S' → Q .non H'
section
variable {P : Program} {w : World} {K : PySem.W.Frag} {mg : Str → Option Value} {base : Heap}
theorem ok_le {f fP fB fL C : Addr} {fd dP dB dL : FuncData} (F : Fun K "_law_left" "_law_left" sLeft f fd) (T : TxtL mg) (cPl : CalN P w K mg base "_law_plus" 34 ["one", "two"] (spPlu C) fP dP) (cBy : CalN P w K mg base "_law_by" 34 ["one", "two"] (spBy C) fB dB) (cLo : CalN P w K mg base "_law_lowest" 33 ["top", "bottom"] spPairB fL dL) : FnOk P w K mg base CX0 35 f fd ["rows", "deed"] (spLe C) := by
  refine F.ok scLe (fun vs H Q E h => ?_) (fun cdv A outer s H vs Q E hr h => ?_)
  · obtain ⟨O, p, d, h, n, ra, S, S', kd, i, j, f, rfl, _⟩ := h
    rfl
  · obtain ⟨O, p, d, h, n, ra, S, S', kd, i, j, g, rfl, t, hd, hi, hj, hh, hn, st, fa, kk⟩ := h
    have hr34 : Room 34 _ := hr
    have hr33 : Room 33 _ := hr.mono (by decide)
    obtain ⟨fp, hD, hF⟩ := hd.ex
    obtain ⟨u, hu, su⟩ := (t.rows i hi).at (C := C)
    obtain ⟨v, hv, sv⟩ := (t.rows j hj).at (C := C)
    obtain ⟨xs, hx, lx, ex⟩ := At.lstR hu
    obtain ⟨ys, hy, ly, ey⟩ := At.lstR hv
    have tU := t.mono st.up
    have pt : PairAt H fp g.num (g.den : Int) := hF
    refine ⟨_, pss_cons (ps_set (i := 2) scLe.nd rfl (.inl rfl) (pe_ix ix_tup (pv 1) pe_int (fun _ _ => rfl)))
      (pss_cons (ps_set (i := 3) scLe.nd rfl (.inr rfl) (pe_ix ix_tup (pv 1) pe_int (fun _ _ => rfl)))
      (pss_cons (ps_set (i := 4) scLe.nd rfl (.inr rfl) (pe_ix ix_list (pv 0) (pe_ix ix_tup (pv 1) pe_int (fun _ _ => rfl)) (fun _ _ => rfl)))
      (pss_cons (ps_set (i := 5) scLe.nd rfl (.inr rfl) (pe_ix ix_list (pv 0) (pe_ix ix_tup (pv 1) pe_int (fun _ _ => rfl)) (fun _ _ => rfl)))
      (pss_cons (ps_if (pt_cmpR op_eq (pv 2) pe_str (nomark _))
        (pss_cons (ps_set (i := 6) scLe.nd rfl (.inr rfl) (pe_tup (pa_cons (pe_op op_sub pe_int (pe_ix ix_tup (pv 3) pe_int (fun _ _ => rfl))) (pa_cons (pe_ix ix_tup (pv 3) pe_int (fun _ _ => rfl)) pa_nil))))
        (pss_one (ps_asg (pe_lc (own := [("k", 7)]) (g := gName 7) (tt := tYes) rfl scLe.nd (pi_range1 (by rfl) T.range (pa_cons (pe_callB call_len_seq (by rfl) T.len PySem.boot_len (pa_cons (pv 4) pa_nil)) pa_nil)) (blkOk_by (N := ["rows", "deed", "kind", "factor", "first", "second", "less", "k", "number"]) (sc := (defScope sLeft)) (by decide +kernel)) (fun _ _ _ _ _ => (pg_name (i := 7) scLe.nd rfl (.inl rfl))) (fun _ _ _ _ _ => pts_nil) (fun _ _ _ _ _ => (pe_call cPl.G hr34 rfl cPl.m cPl.kp cPl.b .nil pass0 (pa_cons (pe_ix (show IxR _ (rIxL K) from ix_list) (pv 4) (pv 7) (fun _ _ => rfl)) (pa_cons (pe_call cBy.G hr34 rfl cBy.m cBy.kp cBy.b .nil pass0 (pa_cons (pv 6) (pa_cons (pe_ix (show IxR _ (rIxL K) from ix_list) (pv 5) (pv 7) (fun _ _ => rfl)) pa_nil))) pa_nil))))) (pg_sub (pv 0) (pe_ix ix_tup (pv 1) pe_int (fun _ _ => rfl)) set_list))))
        pss_nil)
      (pss_cons (ps_if (pt_cmpR op_eq (pv 2) pe_str (nomark _))
        (pss_one (ps_asg (pe_lc (own := [("number", 8)]) (g := gName 8) (tt := tYes) rfl scLe.nd (pi_list (pv 4)) (blkOk_by (N := ["rows", "deed", "kind", "factor", "first", "second", "less", "k", "number"]) (sc := (defScope sLeft)) (by decide +kernel)) (fun _ _ _ _ _ => (pg_name (i := 8) scLe.nd rfl (.inl rfl))) (fun _ _ _ _ _ => pts_nil) (fun _ _ _ _ _ => (pe_call cBy.G hr34 rfl cBy.m cBy.kp cBy.b .nil pass0 (pa_cons (pv 8) (pa_cons (pe_call cLo.G hr33 rfl cLo.m cLo.kp cLo.b .nil pass0 (pa_cons (pe_ix (show IxR _ (rIxT K) from ix_tup) (pv 3) pe_int (fun _ _ => rfl)) (pa_cons (pe_ix (show IxR _ (rIxT K) from ix_tup) (pv 3) pe_int (fun _ _ => rfl)) pa_nil))) pa_nil))))) (pg_sub (pv 0) (pe_ix ix_tup (pv 1) pe_int (fun _ _ => rfl)) set_list)))
        pss_nil)
      (pss_one (ps_if (pt_cmpR op_eq (pv 2) pe_str (nomark _))
        (pss_cons (ps_asg (pv 5) (pg_sub (pv 0) (pe_ix ix_tup (pv 1) pe_int (fun _ _ => rfl)) set_list))
        (pss_one (ps_asg (pv 4) (pg_sub (pv 0) (pe_ix ix_tup (pv 1) pe_int (fun _ _ => rfl)) set_list))))
        pss_nil))))))), ?_⟩
    refine ⟨_, rfl, d, _, 0, _, rfl, rfl, SqT.of hD, rfl, ?_⟩
    refine ⟨_, rfl, d, _, 3, _, rfl, rfl, SqT.of hD, rfl, ?_⟩
    refine ⟨_, rfl, _, rfl, d, _, 1, _, rfl, rfl, SqT.of hD, rfl, p, _, _, _, rfl, rfl, SqL.of t.hp, at_of rfl (TabR.get hi), ?_⟩
    refine ⟨_, rfl, _, rfl, d, _, 2, _, rfl, rfl, SqT.of hD, rfl, p, _, _, _, rfl, rfl, SqL.of t.hp, at_of rfl (TabR.get hj), ?_⟩
    -- a new row in the place i
    have give : ∀ (D : Addr) (G : Hp), H D = none → Same H G → RowM G D n S' → Q .non (upd G p (.lst (((List.range h).map fun i => V.ref (ra i)).set i (.ref D)))) := fun D G nD s row => by
      have t2 := tU.put hi nD s row
      refine kk _ _ _ (fun b z => z.imp id fun e => by rw [e]; exact nD) ?_ t2
      exact ((Same.fr s).trans (Fr.updL t.op (s _ _ t.hp)))
    cases kd with
    | add =>
      refine ⟨_, rfl, rfl, _, rfl, itT knd_eq ?_⟩
      refine ⟨_, rfl, fp, _, 0, _, rfl, rfl, pt.t, rfl, _, _, rfl, rfl, _, rfl, fp, _, 1, _, rfl, rfl, pt.t, rfl, (by show 2 ≤ sizeLine; decide), fun lp nl => ?_⟩
      have s0 : Same H (upd H lp (.tup [.int (0 - g.num), .int (g.den : Int)])) := Same.upd nl
      have hl : PrQ (upd H lp (.tup [.int (0 - g.num), .int (g.den : Int)])) lp (-g) := by
        show upd _ _ _ lp = _
        rw [upd_same, Rat.neg_num, Rat.neg_den, Int.zero_sub]
      generalize upd H lp (.tup [.int (0 - g.num), .int (g.den : Int)]) = H1 at *
      have hx1 := s0 _ _ hx
      have hy1 := s0 _ _ hy
      refine ⟨_, rfl, ra i, xs, rfl, .inl (SqL.of hx1), _, rfl, by rw [lx]; omega, by rw [lx]; omega, fun D nD => ?_⟩
      have nDH := s0.free nD
      refine lc_it (walk_range (lo := 0) (n := xs.length)) (fun k G => Bld C Emp Emp H1 D (rng k fun k => prD (u k + -g * v k)) G) (bld0 nD) (fun _ _ _ _ => trivial) ?_ ?_
      · rintro k x G1 G2 hk bd ⟨rfl, rfl⟩
        rw [lx] at hk
        have s1 := bd.k.same
        obtain ⟨x1, hx2, dx⟩ := ex k hk
        obtain ⟨y1, hy2, dy⟩ := ey k hk
        have dx := bd.old nD (fun _ z => z.elim) (dx.same s0)
        have dy := bd.old nD (fun _ z => z.elim) (dy.same s0)
        have dl := bd.old nD (fun _ z => z.elim) (at_pair (C := C) (N := Emp) hl id)
        have al := bd.alc (N := Emp) alc_emp
        obtain ⟨p1, rfl, _⟩ := dx.pair
        obtain ⟨p2, rfl, _⟩ := dy.pair
        refine ⟨rfl, _, rfl, _, rfl, ra i, _, _, _, rfl, rfl, SqL.of (s1 _ _ hx1), at_of (Int.zero_add _) hx2, _, rfl, _, rfl, _, rfl, ra j, _, _, _, rfl, rfl, SqL.of (s1 _ _ hy1), at_of (Int.zero_add _) hy2, And1 Emp D, lp, p2, -g, v k, rfl, dl, dy, al, fa.neg.hg, st.hg _ (sv k hk), fun r1 G3 s3 hr1 => ?_⟩
        refine ⟨And1 Emp D, p1, r1, u k, -g * v k, rfl, dx.same s3, hr1, al.keep (Same.keep (N := Emp) s3), st.hg _ (su k hk), st.hp _ _ fa.neg (sv k hk), fun r2 G4 s4 hr2 => ?_⟩
        have s34 := s3.trans s4
        obtain ⟨acc, a1, a2, a3⟩ := bd.step nD (Same.keep s34) (fun _ z => z.elim) id hr2
        refine ⟨acc, a1, by rw [a2, rng_len]; exact small1000 (by omega), ?_⟩
        rw [rng_succ]
        exact a3
      · rintro G1 bd
        rw [lx] at bd
        have s1 := bd.k.same
        have row : RowM G1 D n S' := RowM.of (bd.done (fun z => z.elim)) fun k hk => st.ad _ _ _ fa.neg (su k hk) (sv k hk)
        have s01 := s0.trans s1
        refine ⟨_, rfl, _, rfl, d, _, 1, _, rfl, rfl, SqT.of (s01 _ _ hD), rfl, p, _, (i : Int), i, rfl, rfl, s01 _ _ t.hp, ixN_at rfl (by rw [List.length_map, List.length_range]; exact hi), ?_⟩
        refine ⟨_, rfl, rfl, _, rfl, itF (knd_ne rfl) ?_⟩
        refine ⟨_, rfl, rfl, _, rfl, itF (knd_ne rfl) ?_⟩
        exact give D G1 nDH s01 row
    | scale =>
      refine ⟨_, rfl, rfl, _, rfl, itF (knd_ne rfl) ?_⟩
      refine ⟨_, rfl, rfl, _, rfl, itT knd_eq ?_⟩
      refine ⟨_, rfl, ra i, rfl, ⟨_, SqL.of hx⟩, fun D nD => ?_⟩
      refine lc_it (walk_list (K := K) (a := ra i) (xs := xs)) (fun k G => Bld C Emp Emp H D (rng k fun k => prD (u k * g⁻¹)) G) (bld0 nD) (fun i G _ b => SqL.of (b.k.same _ _ hx)) ?_ ?_
      · rintro k x G1 G2 hk bd ⟨rfl, hxk⟩
        rw [lx] at hk
        have s1 := bd.k.same
        obtain ⟨x1, hx2, dx⟩ := ex k hk
        rw [hx2] at hxk
        obtain rfl := Option.some.inj hxk
        have dx := bd.old nD (fun _ z => z.elim) dx
        have al := bd.alc (N := Emp) alc_emp
        obtain ⟨p1, rfl, _⟩ := dx.pair
        refine ⟨rfl, _, rfl, _, rfl, fp, _, 1, _, rfl, rfl, (pt.same s1).t, rfl, _, rfl, fp, _, 0, _, rfl, rfl, (pt.same s1).t, rfl, _, _, rfl, num_ne fa.1, fun r1 G3 s3 nr1 hr1 => ?_⟩
        obtain ⟨e1, e2⟩ := RQ.low (num_ne fa.1) (inv_eq fa.1)
        rw [e1, e2] at hr1
        have al3 := al.keep (Same.keep (N := Emp) s3)
        refine ⟨And1 Emp D, p1, r1, u k, g⁻¹, rfl, dx.same s3, at_pair hr1 (al.fresh nr1), al3, st.hg _ (su k hk), fa.inv.hg, fun r2 G4 s4 hr2 => ?_⟩
        have s34 := s3.trans s4
        obtain ⟨acc, a1, a2, a3⟩ := bd.step nD (Same.keep s34) (fun _ z => z.elim) id hr2
        refine ⟨acc, a1, by rw [a2, rng_len]; exact small1000 (by omega), ?_⟩
        rw [rng_succ]
        exact a3
      · rintro G1 bd
        rw [lx] at bd
        have s1 := bd.k.same
        have row : RowM G1 D n S' := RowM.of (bd.done (fun z => z.elim)) fun k hk => st.ml2 fa.inv (su k hk)
        refine ⟨_, rfl, _, rfl, d, _, 1, _, rfl, rfl, SqT.of (s1 _ _ hD), rfl, p, _, (i : Int), i, rfl, rfl, s1 _ _ t.hp, ixN_at rfl (by rw [List.length_map, List.length_range]; exact hi), ?_⟩
        refine ⟨_, rfl, rfl, _, rfl, itF (knd_ne rfl) ?_⟩
        exact give D G1 nD s1 row
    | swap =>
      refine ⟨_, rfl, rfl, _, rfl, itF (knd_ne rfl) ?_⟩
      refine ⟨_, rfl, rfl, _, rfl, itF (knd_ne rfl) ?_⟩
      refine ⟨_, rfl, rfl, _, rfl, itT knd_eq ?_⟩
      refine ⟨_, rfl, _, rfl, _, rfl, d, _, 1, _, rfl, rfl, SqT.of hD, rfl, p, _, (i : Int), i, rfl, rfl, t.hp, ixN_at rfl (by rw [List.length_map, List.length_range]; exact hi), ?_⟩
      have f1 : Fr O H (upd H p (.lst (((List.range h).map fun i => V.ref (ra i)).set i (.ref (ra j))))) := Fr.updL t.op t.hp
      have hp1 : (upd H p (.lst (((List.range h).map fun i => V.ref (ra i)).set i (.ref (ra j))))) p = some (.lst (((List.range h).map fun i => V.ref (ra i)).set i (.ref (ra j)))) := upd_same
      refine ⟨_, rfl, _, rfl, _, rfl, d, _, 2, _, rfl, rfl, SqT.of (f1.t _ _ hD), rfl, p, _, (j : Int), j, rfl, rfl, hp1, ixN_at rfl (by rw [List.length_set, List.length_map, List.length_range]; exact hj), ?_⟩
      have f2 : Fr (K1 p) H (upd (upd H p (.lst (((List.range h).map fun i => V.ref (ra i)).set i (.ref (ra j))))) p (.lst ((((List.range h).map fun i => V.ref (ra i)).set i (.ref (ra j))).set j (.ref (ra i))))) := (Fr.updL (W := K1 p) (show K1 p p from rfl) t.hp).trans (Fr.updL (W := K1 p) (show K1 p p from rfl) hp1)
      refine kk _ O (fun r => if r = j then ra i else if r = i then ra j else ra r) (fun b z => .inl z) (f2.more fun b z => by rw [z]; exact t.op) ⟨?_, t.op, fun k hk => ?_, fun k hk => ?_, fun k hk l hl e => ?_, fun k hk => ?_, t.al.keep f2.k⟩
      · rw [upd_same, set_map (ra := ra) hi, set_map (ra := fun r => if r = i then ra j else ra r) hj]
      · show O (if k = j then ra i else if k = i then ra j else ra k)
        split
        · exact t.orr i hi
        · split
          · exact t.orr j hj
          · exact t.orr k hk
      · show (if k = j then ra i else if k = i then ra j else ra k) ≠ p
        split
        · exact t.ne i hi
        · split
          · exact t.ne j hj
          · exact t.ne k hk
      · have J := t.inj
        have e : (if k = j then ra i else if k = i then ra j else ra k) = (if l = j then ra i else if l = i then ra j else ra l) := e
        by_cases a1 : k = j
        · by_cases a2 : l = j
          · omega
          · rw [if_pos a1, if_neg a2] at e
            by_cases a3 : l = i
            · rw [if_pos a3] at e
              have := J i hi j hj e
              omega
            · rw [if_neg a3] at e
              have := J i hi l hl e
              omega
        · rw [if_neg a1] at e
          by_cases a2 : l = j
          · rw [if_pos a2] at e
            by_cases a3 : k = i
            · rw [if_pos a3] at e
              have := J j hj i hi e
              omega
            · rw [if_neg a3] at e
              have := J k hk i hi e
              omega
          · rw [if_neg a2] at e
            by_cases a3 : k = i
            · by_cases a4 : l = i
              · omega
              · rw [if_pos a3, if_neg a4] at e
                have := J j hj l hl e
                omega
            · by_cases a4 : l = i
              · rw [if_neg a3, if_pos a4] at e
                have := J k hk j hj e
                omega
              · rw [if_neg a3, if_neg a4] at e
                exact J k hk l hl e
      · have G : ∀ r, r < h → RowM _ (ra r) n S' := fun r hr => (tU.rows r hr).fr f2 fun z => t.ne r hr z
        show RowM _ (if k = j then ra i else if k = i then ra j else ra k) n S'
        split
        · exact G i hi
        · split
          · exact G j hj
          · exact G k hk
    | none =>
      refine ⟨_, rfl, rfl, _, rfl, itF (knd_ne rfl) ?_⟩
      refine ⟨_, rfl, rfl, _, rfl, itF (knd_ne rfl) ?_⟩
      refine ⟨_, rfl, rfl, _, rfl, itF (knd_ne rfl) ?_⟩
      exact kk H O ra (fun b z => .inl z) Fr.refl tU
end
end RX

set_option Elab.async false
set_option maxRecDepth 100000
namespace RX
open PySem L2 LX VA VM VN EB
open RQ (Hg Bt)
/-! ### a list of pairs that is built; the parts of a machine that are changed in place -/
structure Bl (W : Addr → Prop) (H0 : Hp) (D : Addr) (k : Nat) (S : Rat → Prop) (G : Hp) : Prop where
  xs : ∃ acc, G D = some (.lst acc) ∧ acc.length = k ∧ ∀ x ∈ acc, PrS G S x
  f : Fr W H0 G
section
variable {W : Addr → Prop} {H0 G G3 : Hp} {D : Addr} {k : Nat} {S : Rat → Prop}
theorem bl0 (n : H0 D = none) : Bl W H0 D 0 S (upd H0 D (.lst [])) := ⟨⟨[], upd_same, rfl, fun x h => absurd h List.not_mem_nil⟩, Same.fr (Same.upd n)⟩
theorem Bl.step {x : V} (b : Bl W H0 D k S G) (n : H0 D = none) (w : ¬ W D) (f : Fr W G G3) (h : PrS G3 S x) : ∃ acc, G3 D = some (.lst acc) ∧ acc.length = k ∧ Bl W H0 D (k + 1) S (upd G3 D (.lst (acc ++ [x]))) := by
  obtain ⟨acc, h1, h2, h3⟩ := b.xs
  have hD := f.get h1 w
  have fu : Fr (K1 D) G3 (upd G3 D (.lst (acc ++ [x]))) := Fr.updL rfl hD
  refine ⟨acc, hD, h2, ⟨_, upd_same, by rw [List.length_append, h2]; rfl, fun y hy => ?_⟩, ?_⟩
  · rcases List.mem_append.mp hy with hy | hy
    · exact ((h3 y hy).fr f).fr fu
    · rw [List.mem_singleton.mp hy]
      exact h.fr fu
  · exact Fr.dropS (W := fun b => W b ∨ b = D) (((b.f.trans f).more fun _ z => .inl z).trans (fu.more fun _ z => .inr z)) fun b z => z.imp id fun e => by rw [e]; exact n
theorem Bl.done (b : Bl W H0 D k S G) : RowM G D k S := ⟨b.xs⟩
end
structure PtG (H : Hp) (O : Addr → Prop) (q s t e : Addr) (k : Nat) (sa : Nat → Addr) (X : Nat → Addr → Prop) (ns ne : Nat) (nn : Nat → Nat) (Ss Se : Rat → Prop) (SS : Nat → Rat → Prop) : Prop where
  hq : H q = some (.lst [.int (k : Int), .ref s, .ref t, .ref e])
  ht : H t = some (.lst ((List.range k).map fun x => V.ref (sa x)))
  rs : RowM H s ns Ss
  re : RowM H e ne Se
  tt : ∀ x, x < k → ∃ ra, TabR H (X x) (sa x) (nn x) (nn x) ra (SS x)
  oq : O q
  os : O s
  ot : O t
  oe : O e
  ne : (q ≠ s ∧ q ≠ t ∧ q ≠ e) ∧ (s ≠ t ∧ s ≠ e) ∧ t ≠ e
  ox : ∀ x, x < k → ∀ b, X x b → O b ∧ b ≠ q ∧ b ≠ s ∧ b ≠ t ∧ b ≠ e
  oy : ∀ x, x < k → ∀ y, y < k → x ≠ y → ∀ b, X x b → ¬ X y b
  al : Alc O H
def Pm (H : Hp) (O : Addr → Prop) (q : Addr) (k n : Nat) (S : Rat → Prop) : Prop := ∃ s t e sa X, PtG H O q s t e k sa X n n (fun _ => n) S S (fun _ => S)
section
variable {W O : Addr → Prop} {H H' : Hp} {q s t e : Addr} {k : Nat} {sa : Nat → Addr} {X : Nat → Addr → Prop} {ns ne : Nat} {nn : Nat → Nat} {Ss Se : Rat → Prop} {SS : Nat → Rat → Prop}
theorem PtG.fr (m : PtG H O q s t e k sa X ns ne nn Ss Se SS) (f : Fr W H H') (d : ∀ b, O b → ¬ W b) : PtG H' O q s t e k sa X ns ne nn Ss Se SS :=
  ⟨f.get m.hq (d _ m.oq), f.get m.ht (d _ m.ot), m.rs.fr f (d _ m.os), m.re.fr f (d _ m.oe), fun x hx => let ⟨ra, r⟩ := m.tt x hx; ⟨ra, r.fr f fun b z => d b (m.ox x hx b z).1⟩, m.oq, m.os, m.ot, m.oe, m.ne, m.ox, m.oy, m.al.keep f.k⟩
theorem PtG.same (m : PtG H O q s t e k sa X ns ne nn Ss Se SS) (f : Same H H') : PtG H' O q s t e k sa X ns ne nn Ss Se SS := m.fr (Same.fr (W := Emp) f) fun _ _ => id
theorem PtG.mono {Ss' Se' : Rat → Prop} {SS' : Nat → Rat → Prop} (m : PtG H O q s t e k sa X ns ne nn Ss Se SS) (a : ∀ r, Ss r → Ss' r) (b : ∀ r, Se r → Se' r) (c : ∀ x, x < k → ∀ r, SS x r → SS' x r) : PtG H O q s t e k sa X ns ne nn Ss' Se' SS' :=
  ⟨m.hq, m.ht, m.rs.mono a, m.re.mono b, fun x hx => let ⟨ra, r⟩ := m.tt x hx; ⟨ra, r.mono (c x hx)⟩, m.oq, m.os, m.ot, m.oe, m.ne, m.ox, m.oy, m.al⟩
theorem PtG.setS {ns' : Nat} {Ss' : Rat → Prop} (m : PtG H O q s t e k sa X ns ne nn Ss Se SS) (f : Fr W H H') (w : ∀ b, W b → O b → b = s) (r : RowM H' s ns' Ss') : PtG H' O q s t e k sa X ns' ne nn Ss' Se SS := by
  obtain ⟨⟨n1, n2, n3⟩, ⟨n4, n5⟩, n6⟩ := m.ne
  exact ⟨f.get m.hq fun z => n1 (w _ z m.oq), f.get m.ht fun z => n4 (w _ z m.ot).symm, r, m.re.fr f fun z => n5 (w _ z m.oe).symm, fun x hx => let ⟨ra, r⟩ := m.tt x hx; ⟨ra, r.fr f fun b z y => (m.ox x hx b z).2.2.1 (w _ y (m.ox x hx b z).1)⟩, m.oq, m.os, m.ot, m.oe, m.ne, m.ox, m.oy, m.al.keep f.k⟩
theorem PtG.setE {ne' : Nat} {Se' : Rat → Prop} (m : PtG H O q s t e k sa X ns ne nn Ss Se SS) (f : Fr W H H') (w : ∀ b, W b → O b → b = e) (r : RowM H' e ne' Se') : PtG H' O q s t e k sa X ns ne' nn Ss Se' SS := by
  obtain ⟨⟨n1, n2, n3⟩, ⟨n4, n5⟩, n6⟩ := m.ne
  exact ⟨f.get m.hq fun z => n3 (w _ z m.oq), f.get m.ht fun z => n6 (w _ z m.ot), m.rs.fr f fun z => n5 (w _ z m.os), r, fun x hx => let ⟨ra, r⟩ := m.tt x hx; ⟨ra, r.fr f fun b z y => (m.ox x hx b z).2.2.2.2 (w _ y (m.ox x hx b z).1)⟩, m.oq, m.os, m.ot, m.oe, m.ne, m.ox, m.oy, m.al.keep f.k⟩
/-- the table of one letter -/
theorem PtG.setX {x n' : Nat} {X' : Addr → Prop} {S' : Rat → Prop} {ra' : Nat → Addr} (m : PtG H O q s t e k sa X ns ne nn Ss Se SS) (hx : x < k) (f : Fr W H H') (w : ∀ b, W b → O b → X x b) (sub : ∀ b, X' b → X x b ∨ H b = none) (r : TabR H' X' (sa x) n' n' ra' S') :
    PtG H' (fun b => O b ∨ X' b) q s t e k sa (fun y => if y = x then X' else X y) ns ne (fun y => if y = x then n' else nn y) Ss Se (fun y => if y = x then S' else SS y) := by
  have nx := m.ox x hx
  have al : Alc O H' := m.al.keep f.k
  refine ⟨f.get m.hq fun z => (nx _ (w _ z m.oq)).2.1 rfl, f.get m.ht fun z => (nx _ (w _ z m.ot)).2.2.2.1 rfl, m.rs.fr f fun z => (nx _ (w _ z m.os)).2.2.1 rfl, m.re.fr f fun z => (nx _ (w _ z m.oe)).2.2.2.2 rfl, fun y hy => ?_, .inl m.oq, .inl m.os, .inl m.ot, .inl m.oe, m.ne, fun y hy b hb => ?_, fun y hy z hz ne b hb hb2 => ?_, fun b z => z.elim (al b) (r.al b)⟩
  · by_cases h : y = x
    · subst h
      rw [if_pos rfl, if_pos rfl, if_pos rfl]
      exact ⟨_, r⟩
    · rw [if_neg h, if_neg h, if_neg h]
      obtain ⟨ra, t⟩ := m.tt y hy
      exact ⟨ra, t.fr f fun b hb z => m.oy y hy x hx h b hb (w _ z (m.ox y hy b hb).1)⟩
  · by_cases h : y = x
    · rw [if_pos h] at hb
      rcases sub b hb with hb2 | hb2
      · exact ⟨.inr hb, (nx b hb2).2⟩
      · refine ⟨.inr hb, fun z => ?_, fun z => ?_, fun z => ?_, fun z => ?_⟩
        · exact m.al _ m.oq (by rw [← z]; exact hb2)
        · exact m.al _ m.os (by rw [← z]; exact hb2)
        · exact m.al _ m.ot (by rw [← z]; exact hb2)
        · exact m.al _ m.oe (by rw [← z]; exact hb2)
    · rw [if_neg h] at hb
      have := m.ox y hy b hb
      exact ⟨.inl this.1, this.2⟩
  · have key : ∀ y, y < k → y ≠ x → ∀ b, X' b → ¬ X y b := fun y hy h b h1 h2 => by
      rcases sub b h1 with h3 | h3
      · exact m.oy x hx y hy (Ne.symm h) b h3 h2
      · exact m.al b (m.ox y hy b h2).1 h3
    by_cases h : y = x
    · rw [if_pos h] at hb
      rw [if_neg fun w => ne (by rw [h, w])] at hb2
      exact key z hz (fun w => ne (by rw [h, w])) b hb hb2
    · rw [if_neg h] at hb
      by_cases h2 : z = x
      · rw [if_pos h2] at hb2
        exact key y hy h b hb2 hb
      · rw [if_neg h2] at hb2
        exact m.oy y hy z hz ne b hb hb2
/-- another list at the end -/
theorem PtG.newE {ne' : Nat} {e' : Addr} {Se' : Rat → Prop} (m : PtG H O q s t e k sa X ns ne nn Ss Se SS) (sm : Same H H') (n : H e' = none) (r : RowM H' e' ne' Se') :
    PtG (upd H' q (.lst [.int (k : Int), .ref s, .ref t, .ref e'])) (fun b => O b ∨ b = e') q s t e' k sa X ns ne' nn Ss Se' SS := by
  obtain ⟨⟨n1, n2, n3⟩, ⟨n4, n5⟩, n6⟩ := m.ne
  have f : Fr (K1 q) H' (upd H' q (.lst [.int (k : Int), .ref s, .ref t, .ref e'])) := Fr.updL rfl (sm _ _ m.hq)
  have m' := m.same sm
  have nn : ∀ b, O b → b ≠ e' := fun b h z => m.al b h (by rw [z]; exact n)
  refine ⟨upd_same, f.get m'.ht fun z => n2 z.symm, m'.rs.fr f fun z => n1 z.symm, r.fr f fun z => nn q m.oq z.symm, fun x hx => let ⟨ra, r⟩ := m'.tt x hx; ⟨ra, r.fr f fun b z => (m.ox x hx b z).2.1⟩, .inl m.oq, .inl m.os, .inl m.ot, .inr rfl, ⟨⟨n1, n2, nn q m.oq⟩, ⟨n4, nn s m.os⟩, nn t m.ot⟩, fun x hx b hb => ?_, m.oy, fun b z => ?_⟩
  · have := m.ox x hx b hb
    exact ⟨.inl this.1, this.2.1, this.2.2.1, this.2.2.2.1, nn b this.1⟩
  · rcases z with z | z
    · exact m'.al.keep f.k b z
    · rw [z]; exact f.k.a _ r.there
theorem PtG.cong {nn' : Nat → Nat} {SS' : Nat → Rat → Prop} (m : PtG H O q s t e k sa X ns ne nn Ss Se SS) (a : ∀ x, x < k → nn x = nn' x) (b : ∀ x, x < k → SS x = SS' x) : PtG H O q s t e k sa X ns ne nn' Ss Se SS' :=
  ⟨m.hq, m.ht, m.rs, m.re, fun x hx => let ⟨ra, r⟩ := m.tt x hx; ⟨ra, by rw [← a x hx, ← b x hx]; exact r⟩, m.oq, m.os, m.ot, m.oe, m.ne, m.ox, m.oy, m.al⟩
end
theorem Pm.fr {W O : Addr → Prop} {H H' : Hp} {q : Addr} {k n : Nat} {S : Rat → Prop} (m : Pm H O q k n S) (f : Fr W H H') (d : ∀ b, O b → ¬ W b) : Pm H' O q k n S := let ⟨s, t, e, sa, X, m⟩ := m; ⟨s, t, e, sa, X, m.fr f d⟩
theorem Pm.same {O : Addr → Prop} {H H' : Hp} {q : Addr} {k n : Nat} {S : Rat → Prop} (m : Pm H O q k n S) (f : Same H H') : Pm H' O q k n S := let ⟨s, t, e, sa, X, m⟩ := m; ⟨s, t, e, sa, X, m.same f⟩
theorem Pm.mono {O : Addr → Prop} {H : Hp} {q : Addr} {k n : Nat} {S S' : Rat → Prop} (m : Pm H O q k n S) (f : ∀ r, S r → S' r) : Pm H O q k n S' := let ⟨s, t, e, sa, X, m⟩ := m; ⟨s, t, e, sa, X, m.mono f f fun _ _ => f⟩
theorem Pm.al {O : Addr → Prop} {H : Hp} {q : Addr} {k n : Nat} {S : Rat → Prop} (m : Pm H O q k n S) : Alc O H := let ⟨_, _, _, _, _, m⟩ := m; m.al
theorem choose_T {n : Nat} {P : Nat → (Nat → Nat → Rat) → Prop} (x : ∀ j, j < n → ∃ q, P j q) : ∃ u : Nat → Nat → Nat → Rat, ∀ j, j < n → P j (u j) := by
  have g : ∀ j, ∃ q, j < n → P j q := fun j => by
    by_cases hj : j < n
    · obtain ⟨q, hq⟩ := x j hj
      exact ⟨q, fun _ => hq⟩
    · exact ⟨fun _ _ => 0, fun z => absurd z hj⟩
  exact ⟨fun j => (g j).choose, fun j hj => (g j).choose_spec hj⟩
/-- all numbers of a machine are in S -/
structure McS (m : Mc) (S : Rat → Prop) : Prop where
  s : ∀ j, j < m.n → S (m.s j)
  e : ∀ j, j < m.n → S (m.e j)
  t : ∀ x, x < m.k → ∀ i, i < m.n → ∀ j, j < m.n → S (m.t x i j)
theorem Pm.at {C : Addr} {O : Addr → Prop} {H : Hp} {q : Addr} {k n : Nat} {S : Rat → Prop} (m : Pm H O q k n S) : ∃ M : Mc, M.k = k ∧ M.n = n ∧ At C Emp H (.ref q) (partsK M) ∧ McS M S := by
  obtain ⟨s, t, e, sa, X, m⟩ := m
  obtain ⟨u, hu, su⟩ := m.rs.at (C := C)
  obtain ⟨v, hv, sv⟩ := m.re.at (C := C)
  obtain ⟨T, hT⟩ := choose_T (n := k) (P := fun x U => At C Emp H (.ref (sa x)) (prT n n U) ∧ ∀ i, i < n → ∀ j, j < n → S (U i j)) fun x hx => by
    obtain ⟨ra, r⟩ := m.tt x hx
    obtain ⟨U, h1, h2⟩ := r.at (C := C)
    exact ⟨U, h1, h2⟩
  refine ⟨⟨k, n, u, T, v⟩, rfl, rfl, .lst m.hq id rfl (itemsC (.int _) (itemsC hu (itemsC (.lst m.ht id (by rw [rng_len, List.length_map, List.length_range]) fun i x d hx hd => ?_) (items1 hv)))), ⟨su, sv, fun x hx => (hT x hx).2⟩⟩
  obtain ⟨hi, rfl⟩ := rng_lt hd
  rw [List.getElem?_map, List.getElem?_range hi] at hx
  obtain rfl := Option.some.inj hx
  exact (hT i hi).1
end RX

set_option Elab.async false
set_option maxRecDepth 100000
namespace RX
open PySem L2 LX VA VM VN EB
open RQ (Hg Bt)
abbrev sChange : Stmt := topS 53
theorem scCh : FnScope ["parts", "deed", "letter", "step", "column", "number", "row"] ["parts", "deed"] (defScope sChange) := ⟨rfl, rfl, rfl, by decide +kernel, rfl, by decide +kernel, by decide +kernel⟩
/-- one row in a new list -/
theorem tab_one {H : Hp} {s L : Addr} {n : Nat} {S : Rat → Prop} (r : RowM H s n S) (nL : H L = none) : TabR (upd H L (.lst [.ref s])) (fun b => b = L ∨ b = s) L 1 n (fun _ => s) S := by
  have sm : Same H (upd H L (.lst [.ref s])) := Same.upd nL
  have sL : s ≠ L := fun z => r.there (by rw [z]; exact nL)
  refine ⟨upd_same, .inl rfl, fun _ _ => .inr rfl, fun _ _ => sL, fun i hi j hj _ => by omega, fun _ _ => r.same sm, fun b z => ?_⟩
  rcases z with z | z
  · rw [z, upd_same]; intro y; cases y
  · rw [z]; exact (r.same sm).there
/-- rows of one number each, that are built -/
structure Col (H0 : Hp) (D : Addr) (k : Nat) (ra : Nat → Addr) (S : Rat → Prop) (G : Hp) : Prop where
  hD : G D = some (.lst ((List.range k).map fun i => V.ref (ra i)))
  s : Same H0 G
  ne : ∀ i, i < k → ra i ≠ D
  fr : ∀ i, i < k → H0 (ra i) = none
  inj : ∀ i, i < k → ∀ j, j < k → ra i = ra j → i = j
  rows : ∀ i, i < k → RowM G (ra i) 1 S
theorem Col.step {H0 G : Hp} {D L : Addr} {k : Nat} {ra : Nat → Addr} {S : Rat → Prop} {x : V} (c : Col H0 D k ra S G) (nD : H0 D = none) (nL : G L = none) (h : PrS G S x) : Col H0 D (k + 1) (ext ra k L) S (upd (upd G L (.lst [x])) D (.lst (((List.range k).map fun i => V.ref (ra i)) ++ [.ref L]))) := by
  have LD : D ≠ L := fun z => by rw [← z, c.hD] at nL; cases nL
  have hD1 : (upd G L (.lst [x])) D = some (.lst ((List.range k).map fun i => V.ref (ra i))) := by rw [upd_ne LD]; exact c.hD
  have s1 : Same G (upd G L (.lst [x])) := Same.upd nL
  have f : Fr (K1 D) (upd G L (.lst [x])) (upd (upd G L (.lst [x])) D (.lst (((List.range k).map fun i => V.ref (ra i)) ++ [.ref L]))) := Fr.updL rfl hD1
  have old : ∀ i, i < k → ra i ≠ L := fun i hi z => (c.rows i hi).there (by rw [z]; exact nL)
  refine ⟨?_, fun b o hb => ?_, fun i hi => ?_, fun i hi => ?_, fun i hi j hj e => ?_, fun i hi => ?_⟩
  · rw [upd_same, List.range_succ, List.map_append]
    congr 3
    · exact List.map_congr_left fun i hi => by rw [ext_lt ra L (List.mem_range.mp hi)]
    · show [V.ref L] = [V.ref (ext ra k L k)]
      rw [ext_same]
  · rw [upd_ne (ne_of_none hb nD)]
    exact s1 _ _ (c.s _ _ hb)
  · by_cases e : i = k
    · rw [e, ext_same]; exact fun z => LD z.symm
    · rw [ext_lt ra L (by omega)]; exact c.ne i (by omega)
  · by_cases e : i = k
    · rw [e, ext_same]; exact c.s.free nL
    · rw [ext_lt ra L (by omega)]; exact c.fr i (by omega)
  · by_cases e1 : i = k
    · by_cases e2 : j = k
      · omega
      · rw [e1, ext_same, ext_lt ra L (by omega)] at e
        exact absurd e.symm (old j (by omega))
    · by_cases e2 : j = k
      · rw [e2, ext_same, ext_lt ra L (by omega)] at e
        exact absurd e (old i (by omega))
      · rw [ext_lt ra L (by omega), ext_lt ra L (by omega)] at e
        exact c.inj i (by omega) j (by omega) e
  · by_cases e : i = k
    · rw [e, ext_same]
      have r : RowM (upd G L (.lst [x])) L 1 S := ⟨[x], upd_same, rfl, fun y hy => by rw [List.mem_singleton.mp hy]; exact h.same s1⟩
      exact r.fr f fun z => LD z.symm
    · rw [ext_lt ra L (by omega)]
      exact ((c.rows i (by omega)).same s1).fr f fun z => c.ne i (by omega) z
theorem Col.tab {H0 G : Hp} {D : Addr} {k : Nat} {ra : Nat → Addr} {S : Rat → Prop} (c : Col H0 D k ra S G) : TabR G (fun b => b = D ∨ ∃ i, i < k ∧ b = ra i) D k 1 ra S :=
  ⟨c.hD, .inl rfl, fun i hi => .inr ⟨i, hi, rfl⟩, c.ne, c.inj, c.rows, fun b z => by
    rcases z with z | ⟨i, hi, z⟩
    · rw [z, c.hD]; intro y; cases y
    · rw [z]; exact (c.rows i hi).there⟩
def spCh : Sp := fun vs H Q _ => ∃ (O : Addr → Prop) (q d : Addr) (k n : Nat) (S1 S2 S3 : Rat → Prop) (kd : Knd) (i j : Nat) (f : Rat), vs = [.ref q, .ref d] ∧ Pm H O q k n S1 ∧ DeedAt H d kd i j f ∧ i < n ∧ j < n ∧ n ≤ 1000 ∧ k ≤ 4 ∧ Stp S1 S2 ∧ Stp S2 S3 ∧ Fac f ∧
  ∀ (H' : Hp) (O' : Addr → Prop), (∀ b, O' b → O b ∨ H b = none) → Fr O H H' → Pm H' O' q k n S3 → Q .non H'
section
variable {P : Program} {w : World} {K : PySem.W.Frag} {mg : Str → Option Value} {base : Heap}
theorem ok_ch {f fR fL C : Addr} {fd dR dL : FuncData} (F : Fun K "_law_change" "_law_change" sChange f fd) (T : TxtL mg) (cRi : CalN P w K mg base "_law_right" 35 ["rows", "deed"] (spRi C) fR dR) (cLe : CalN P w K mg base "_law_left" 35 ["rows", "deed"] (spLe C) fL dL) : FnOk P w K mg base CX0 36 f fd ["parts", "deed"] spCh := by
  refine F.ok scCh (fun vs H Q E h => ?_) (fun cdv A outer s H vs Q E hr h => ?_)
  · obtain ⟨O, q, d, k, n, S1, S2, S3, kd, i, j, f, rfl, _⟩ := h
    rfl
  · obtain ⟨O, q, d, k, n, S1, S2, S3, kd, i, j, g, rfl, ⟨ps, pt, pe, sa, X, m⟩, hd, hi, hj, hn, hk, st, st2, fa, kk⟩ := h
    have hr35 : Room 35 _ := hr
    refine ⟨_, pss_cons (ps_expr (pe_call cRi.G hr35 rfl cRi.m cRi.kp cRi.b .nil pass0 (pa_cons (pe_lst (pa_cons (pe_ix ix_list (pv 0) pe_int (fun _ _ => rfl)) pa_nil)) (pa_cons (pv 1) pa_nil))))
      (pss_cons (ps_for PassesOwn.never rfl (pi_range1 (by rfl) T.range (pa_cons (pe_ix ix_list (pv 0) pe_int (fun _ _ => rfl)) pa_nil)) (pg_name (i := 2) scCh.nd rfl (.inl rfl))
        (pss_cons (ps_set (i := 3) scCh.nd rfl (.inl rfl) (pe_ix ix_list (pe_ix ix_list (pv 0) pe_int (fun _ _ => rfl)) (pv 2) (fun _ _ => rfl)))
        (pss_cons (ps_expr (pe_call cRi.G hr35 rfl cRi.m cRi.kp cRi.b .nil pass0 (pa_cons (pv 3) (pa_cons (pv 1) pa_nil))))
        (pss_one (ps_expr (pe_call cLe.G hr35 rfl cLe.m cLe.kp cLe.b .nil pass0 (pa_cons (pv 3) (pa_cons (pv 1) pa_nil))))))))
      (pss_cons (ps_setLc (i := 4) (own := [("number", 5)]) (g := gName 5) (tt := tYes) rfl scCh.nd rfl rfl (sw_true rfl rfl rfl (by decide +kernel)) (pi_list (pe_ix ix_list (pv 0) pe_int (fun _ _ => rfl))) (blkOk_by (N := ["parts", "deed", "letter", "step", "column", "number", "row"]) (sc := (defScope sChange)) (by decide +kernel)) (fun _ _ _ _ _ => (pg_name (i := 5) scCh.nd rfl (.inl rfl))) (fun _ _ _ _ _ => pts_nil) (fun _ _ _ _ _ => (pe_lst (pa_cons (pv 5) pa_nil))))
      (pss_cons (ps_expr (pe_call cLe.G hr35 rfl cLe.m cLe.kp cLe.b .nil pass0 (pa_cons (pv 4) (pa_cons (pv 1) pa_nil))))
      (pss_one (ps_asg (pe_lc (own := [("row", 6)]) (g := gName 6) (tt := tYes) rfl scCh.nd (pi_list (pv 4)) (blkOk_by (N := ["parts", "deed", "letter", "step", "column", "number", "row"]) (sc := (defScope sChange)) (by decide +kernel)) (fun _ _ _ _ _ => (pg_name (i := 6) scCh.nd rfl (.inl rfl))) (fun _ _ _ _ _ => pts_nil) (fun _ _ _ _ _ => (pe_ix (show IxR _ (rIxL K) from ix_list) (pv 6) pe_int (fun _ _ => rfl)))) (pg_sub (pv 0) pe_int set_list)))))), ?_⟩
    refine ⟨_, rfl, q, _, 1, _, rfl, rfl, SqL.of m.hq, rfl, (by show 1 ≤ sizeLine; decide), fun L nL => ?_⟩
    have t1 := tab_one m.rs nL
    have sL : Same H (upd H L (.lst [.ref ps])) := Same.upd nL
    generalize upd H L (.lst [.ref ps]) = H1 at *
    refine ⟨_, rfl, _, L, d, 1, n, _, S1, S2, kd, i, j, g, rfl, t1, hd.fr (Same.fr (W := Emp) sL), hi, hj, by decide, hn, st, fa, fun H2 f2 t2 => ?_⟩
    have f02 : Fr (K1 ps) H H2 := Fr.dropS ((Same.fr sL).trans f2) fun b z => by
      rcases z with z | z
      · exact .inr (by rw [z]; exact nL)
      · exact .inl z
    have m2 := m.setS f02 (fun _ z _ => z) (t2.rows 0 (by decide))
    have KO : ∀ b, K1 ps b → O b := fun b z => by rw [z]; exact m.os
    refine ⟨_, rfl, q, _, 0, _, rfl, rfl, SqL.of m2.hq, rfl, k, rfl, by omega, by omega, for_range (n := k) (fun x σ G => ∃ o2 o3 O2 X2, σ = [some (.ref q), some (.ref d), o2, o3, none, none, none] ∧ (∀ b, O2 b → O b ∨ H b = none) ∧ Fr O H G ∧ PtG G O2 q ps pt pe k sa X2 n n (fun _ => n) S2 S1 (fun y => if y < x then S3 else S1))
      ⟨none, none, O, X, rfl, fun b z => .inl z, f02.more KO, m2.cong (fun _ _ => rfl) fun x hx => by rw [if_neg (by omega)]⟩ ?_ ?_⟩
    · rintro x σ G hx ⟨o2, o3, O2, X2, rfl, sub, f3, m3⟩
      obtain ⟨ra, tx⟩ := m3.tt x hx
      rw [if_neg (by omega)] at tx
      refine ⟨_, rfl, q, _, 2, _, rfl, rfl, SqL.of m3.hq, rfl, _, rfl, pt, _, _, _, rfl, rfl, SqL.of m3.ht, at_of (Int.zero_add _) (TabR.get hx), ?_⟩
      refine ⟨_, rfl, _, rfl, X2 x, sa x, d, n, n, ra, S1, S2, kd, i, j, g, rfl, tx, hd.fr f3, hi, hj, hn, hn, st, fa, fun G4 f4 t4 => ?_⟩
      refine ⟨_, rfl, _, rfl, X2 x, sa x, d, n, n, ra, S2, S3, kd, i, j, g, rfl, t4, (hd.fr f3).fr f4, hi, hj, hn, hn, st2, fa, fun G5 X' ra' sub5 f5 t5 => ?_⟩
      have f45 := f4.trans f5
      have m5 := m3.setX hx f45 (fun _ z _ => z) (fun b z => (sub5 b z).imp id fun e => by
        cases e2 : G b with
        | none => rfl
        | some o => exact absurd e (f4.k.a b (by rw [e2]; intro y; cases y))) t5
      have XO : ∀ b, X2 x b → O b ∨ H b = none := fun b z => sub b (m3.ox x hx b z).1
      refine ⟨_, _, _, _, rfl, fun b z => ?_, ?_, m5.cong (fun y _ => by by_cases e : y = x <;> simp [e]) fun y hy => ?_⟩
      · rcases z with z | z
        · exact sub b z
        · rcases sub5 b z with h | h
          · exact XO b h
          · refine .inr ?_
            cases e2 : H b with
            | none => rfl
            | some o => exact absurd h (f4.k.a b (f3.k.a b (by rw [e2]; intro y; cases y)))
      · exact Fr.dropS (W := fun b => O b ∨ X2 x b) ((f3.more fun _ z => .inl z).trans (f45.more fun _ z => .inr z)) fun b z => z.elim .inl (XO b)
      · by_cases e : y = x
        · rw [if_pos e, if_pos (by omega)]
        · rw [if_neg e]
          by_cases e2 : y < x
          · rw [if_pos e2, if_pos (by omega)]
          · rw [if_neg e2, if_neg (by omega)]
    · rintro σ G ⟨o2, o3, O2, X2, rfl, sub, f3, m3⟩
      obtain ⟨xs, hxs, lxs, exs⟩ := m3.re.ex
      refine ⟨_, rfl, q, _, 3, _, rfl, rfl, SqL.of m3.hq, rfl, pe, rfl, ⟨_, SqL.of hxs⟩, fun D nD => ?_⟩
      refine lc_it (walk_list (K := K) (a := pe) (xs := xs)) (fun i G1 => ∃ ra, Col G D i ra S1 G1) ⟨fun _ => D, upd_same, Same.upd nD, fun i a => absurd a (by omega), fun i a => absurd a (by omega), fun i a => absurd a (by omega), fun i a => absurd a (by omega)⟩ (fun i G1 _ b => by obtain ⟨_, c⟩ := b; exact SqL.of (c.s _ _ hxs)) ?_ ?_
      · rintro r x G1 G2 hr2 ⟨ra, c⟩ ⟨rfl, hxr⟩
        have hxm : x ∈ xs := List.mem_of_getElem? hxr
        refine ⟨rfl, _, rfl, (by show 1 ≤ sizeLine; decide), fun L2 nL2 => ?_⟩
        have LD : D ≠ L2 := fun z => by rw [← z, c.hD] at nL2; cases nL2
        refine ⟨_, by rw [upd_ne LD]; exact c.hD, by rw [List.length_map, List.length_range]; exact small1000 (by omega), _, c.step nD nL2 ((exs x hxm).same c.s)⟩
      · rintro G1 ⟨ra, c⟩
        rw [lxs] at c
        have dG := (hd.fr f3).fr (Same.fr (W := Emp) c.s)
        refine ⟨_, rfl, _, rfl, _, D, d, n, 1, ra, S1, S2, kd, i, j, g, rfl, c.tab, dG, hi, hj, hn, by decide, st, fa, fun G2 O' ra' sub2 f2 t2 => ?_⟩
        have fG2 : Fr Emp G G2 := Fr.dropS ((Same.fr c.s).trans f2) fun b z => by
          rcases z with z | ⟨i, hi, z⟩
          · exact .inr (by rw [z]; exact nD)
          · exact .inr (by rw [z]; exact c.fr i hi)
        have s2 : Same G G2 := fG2.k.same
        have hD2 := t2.hp
        refine ⟨_, rfl, D, rfl, ⟨_, SqL.of hD2⟩, fun E1 nE => ?_⟩
        refine lc_it (walk_list (K := K) (a := D) (xs := (List.range n).map fun i => V.ref (ra' i))) (fun r G3 => Bl Emp G2 E1 r S2 G3) (bl0 nE) (fun i G3 _ b => SqL.of (b.f.get hD2 id)) ?_ ?_
        · rintro r x G3 G4 hr3 b ⟨rfl, hxr⟩
          rw [List.length_map, List.length_range] at hr3
          rw [TabR.get hr3] at hxr
          obtain rfl := Option.some.inj hxr
          have rr := (t2.rows r hr3).fr b.f id
          obtain ⟨ys, p, y, hys, lys, hy0, hpy, hsy⟩ := rr.get (i := 0) (by decide)
          refine ⟨rfl, _, rfl, ra' r, ys, 0, _, rfl, rfl, SqL.of hys, at_of rfl hy0, ?_⟩
          obtain ⟨acc, a1, a2, a3⟩ := b.step nE id Fr.refl ⟨p, y, rfl, hpy, hsy⟩
          exact ⟨acc, a1, by rw [a2]; exact small1000 (by omega), a3⟩
        · rintro G3 b
          rw [List.length_map, List.length_range] at b
          have s3 : Same G2 G3 := b.f.k.same
          have s23 := s2.trans s3
          have nE0 : G E1 = none := s2.free nE
          have m4 := m3.newE s23 nE0 b.done
          refine ⟨_, rfl, q, _, 3, 3, rfl, rfl, s23 _ _ m3.hq, ixN_at rfl (show 3 < 4 by decide), ?_⟩
          have nEH : H E1 = none := f3.k.free nE0
          refine kk _ _ (fun b z => ?_) ?_ ⟨ps, pt, E1, sa, X2, m4.mono st2.up st2.up fun x hx r hr => by rw [if_pos hx] at hr; exact hr⟩
          · rcases z with z | z
            · exact sub b z
            · exact .inr (by rw [z]; exact nEH)
          · exact (f3.trans (Same.fr s23)).trans (Fr.more (W := K1 q) (Fr.updL rfl (s23 _ _ m3.hq)) fun b z => by rw [z]; exact m.oq)
end
end RX

set_option Elab.async false
set_option maxRecDepth 100000
namespace RX
open PySem L2 LX VA VM VN EB
open RQ (Hg Bt)
abbrev sPairL : Stmt := topS 54
theorem scPr : FnScope ["tape"] ["tape"] (defScope sPairL) := ⟨rfl, rfl, rfl, by decide +kernel, rfl, by decide +kernel, by decide +kernel⟩
abbrev sDeed : Stmt := topS 50
theorem scDe : FnScope ["tape", "size", "one", "factor", "kind", "two"] ["tape", "size"] (defScope sDeed) := ⟨rfl, rfl, rfl, by decide +kernel, rfl, by decide +kernel, by decide +kernel⟩
def Sml (q : Rat) : Prop := q.num.natAbs ≤ 5 ∧ q.den ≤ 3
theorem sml0 : Sml 0 := ⟨by decide, by decide⟩
theorem Sml.hg {f : Rat} (h : Sml f) : HgQ f := ⟨⟨3, by decide, show f.num.natAbs < 2 ^ 3 by have := h.1; omega⟩, ⟨3, by decide, show ((f.den : Int)).natAbs < 2 ^ 3 by have := h.2; omega⟩⟩
theorem Sml.neg {f : Rat} (h : Sml f) : Sml (-f) := ⟨by rw [Rat.neg_num]; have := h.1; omega, by rw [Rat.neg_den]; exact h.2⟩
theorem div_eq {n d : Int} (h : d ≠ 0) : ((n : Int) : Rat) = ((n : Rat) / (d : Rat)) * ((d : Int) : Rat) := by
  rw [Rat.div_mul_cancel]
  intro z
  exact h (by exact_mod_cast z)
theorem low_of {n d : Int} (h : d ≠ 0) : ∃ q : Rat, RT.top n d = q.num ∧ RT.bot n d = (q.den : Int) ∧ q.num.natAbs ≤ n.natAbs ∧ q.den ≤ d.natAbs ∧ (n ≠ 0 → q ≠ 0) ∧ (n : Rat) = q * (d : Rat) := by
  have e := div_eq (n := n) h
  obtain ⟨e1, e2⟩ := RQ.low h e
  refine ⟨_, e1, e2, ?_, ?_, fun hn z => ?_, e⟩
  · rw [← e1]; exact RT.top_le h
  · have := RT.bot_le (t := n) h
    rw [e2] at this
    omega
  · rw [z, Rat.zero_mul] at e
    exact hn (by exact_mod_cast e)
def spPr : Sp := fun vs H Q _ => ∃ (a cl : Addr), vs = [.ref a] ∧ FeedAt H a cl ∧ ∀ (r : Addr) (q : Rat) (H' : Hp), FeedAt H' a cl → But a H H' → H r = none → PrQ H' r q → Sml q → Q (.ref r) H'
def spDe : Sp := fun vs H Q _ => ∃ (a cl : Addr) (n : Nat), vs = [.ref a, .int (n : Int)] ∧ FeedAt H a cl ∧ 0 < n ∧ n ≤ 1000 ∧ ∀ (r : Addr) (kd : Knd) (i j : Nat) (f : Rat) (H' : Hp), FeedAt H' a cl → But a H H' → DeedAt H' r kd i j f → i < n → j < n → Fac f → Q (.ref r) H'
theorem at4 {y : Int} (h0 : 0 ≤ y) (h1 : y < 4) : ∃ v : Int, atI [V.int 1, V.int (-1), V.int 2, V.int 3] y = some (.int v) ∧ v ≠ 0 ∧ v.natAbs ≤ 3 := by
  have : y = 0 ∨ y = 1 ∨ y = 2 ∨ y = 3 := by omega
  rcases this with rfl | rfl | rfl | rfl <;> exact ⟨_, rfl, by decide, by decide⟩
theorem at5 {y : Int} (h0 : 0 ≤ y) (h1 : y < 5) : ∃ v : Int, atI [V.int 1, V.int 1, V.int 1, V.int 2, V.int 3] y = some (.int v) ∧ v ≠ 0 ∧ v.natAbs ≤ 3 := by
  have : y = 0 ∨ y = 1 ∨ y = 2 ∨ y = 3 ∨ y = 4 := by omega
  rcases this with rfl | rfl | rfl | rfl | rfl <;> exact ⟨_, rfl, by decide, by decide⟩
theorem atk {y : Int} (h0 : 0 ≤ y) (h1 : y < 5) : ∃ kd : Knd, atI [V.str "add", V.str "add", V.str "add", V.str "scale", V.str "swap"] y = some (.str kd.s) := by
  have : y = 0 ∨ y = 1 ∨ y = 2 ∨ y = 3 ∨ y = 4 := by omega
  rcases this with rfl | rfl | rfl | rfl | rfl
  · exact ⟨.add, rfl⟩
  · exact ⟨.add, rfl⟩
  · exact ⟨.add, rfl⟩
  · exact ⟨.scale, rfl⟩
  · exact ⟨.swap, rfl⟩
section
variable {P : Program} {w : World} {K : PySem.W.Frag} {mg : Str → Option Value} {base : Heap}
theorem ok_pr {f fL fE fN : Addr} {fd dL dE dN : FuncData} (F : Fun K "_law_pair" "_law_pair" sPairL f fd) (cLo : CalN P w K mg base "_law_lowest" 33 ["top", "bottom"] spPairB fL dL) (cEn : CalN P w K mg base "_law_entry" 2 ["tape"] spEn fE dE) (cNx : CalN P w K mg base "_law_next" 1 ["tape", "limit"] spDraw fN dN) : FnOk P w K mg base CX0 34 f fd ["tape"] spPr := by
  refine F.ok scPr (fun vs H Q E h => ?_) (fun cdv A outer s H vs Q E hr h => ?_)
  · obtain ⟨a, cl, rfl, _⟩ := h
    rfl
  · obtain ⟨a, cl, rfl, hF, kk⟩ := h
    have hr33 : Room 33 _ := hr
    have hr1 : Room 1 _ := hr.mono (by decide)
    have hr2 : Room 2 _ := hr.mono (by decide)
    refine ⟨_, pss_one (ps_ret (pe_call cLo.G hr33 rfl cLo.m cLo.kp cLo.b .nil pass0 (pa_cons (pe_call cEn.G hr2 rfl cEn.m cEn.kp cEn.b .nil pass0 (pa_cons (pv 0) pa_nil)) (pa_cons (pe_op op_add pe_int (pe_call cNx.G hr1 rfl cNx.m cNx.kp cNx.b .nil pass0 (pa_cons (pv 0) (pa_cons pe_int pa_nil)))) pa_nil)))), ?_⟩
    refine ⟨_, rfl, a, cl, rfl, hF, fun x H1 x0 x1 f1 b1 => ?_⟩
    refine ⟨_, rfl, a, cl, 3, rfl, f1, by decide, by decide, fun y H2 y0 y1 f2 b2 => ⟨_, _, rfl, rfl, ?_⟩⟩
    have d0 : 1 + y ≠ 0 := by omega
    refine ⟨_, _, rfl, d0, fun r H3 s3 nr hR => ?_⟩
    obtain ⟨q, e1, e2, l1, l2, _, _⟩ := low_of (n := x) d0
    rw [e1, e2] at hR
    exact kk r q H3 (f2.same s3) ((b1.trans b2).trans (Same.but s3)) ((b1.trans b2).free nr f2) hR ⟨by omega, by omega⟩
theorem ok_de {f fL fN : Addr} {fd dL dN : FuncData} (F : Fun K "_law_deed" "_law_deed" sDeed f fd) (T : TxtL mg) (cLo : CalN P w K mg base "_law_lowest" 33 ["top", "bottom"] spPairB fL dL) (cNx : CalN P w K mg base "_law_next" 1 ["tape", "limit"] spDraw fN dN) : FnOk P w K mg base CX0 34 f fd ["tape", "size"] spDe := by
  refine F.ok scDe (fun vs H Q E h => ?_) (fun cdv A outer s H vs Q E hr h => ?_)
  · obtain ⟨a, cl, n, rfl, _⟩ := h
    rfl
  · obtain ⟨a, cl, n, rfl, hF, n0, n1, kk⟩ := h
    have hr33 : Room 33 _ := hr
    have hr1 : Room 1 _ := hr.mono (by decide)
    refine ⟨_, pss_cons (ps_set (i := 2) scDe.nd rfl (.inl rfl) (pe_call cNx.G hr1 rfl cNx.m cNx.kp cNx.b .nil pass0 (pa_cons (pv 0) (pa_cons (pv 1) pa_nil))))
      (pss_cons (ps_set (i := 3) scDe.nd rfl (.inl rfl) (pe_tup (pa_cons (pe_ix ix_list (pe_lst (pa_cons pe_int (pa_cons (pe_un un_neg pe_int) (pa_cons pe_int (pa_cons pe_int pa_nil))))) (pe_call cNx.G hr1 rfl cNx.m cNx.kp cNx.b .nil pass0 (pa_cons (pv 0) (pa_cons pe_int pa_nil))) (fun _ _ => rfl)) (pa_cons (pe_ix ix_list (pe_lst (pa_cons pe_int (pa_cons pe_int (pa_cons pe_int (pa_cons pe_int (pa_cons pe_int pa_nil)))))) (pe_call cNx.G hr1 rfl cNx.m cNx.kp cNx.b .nil pass0 (pa_cons (pv 0) (pa_cons pe_int pa_nil))) (fun _ _ => rfl)) pa_nil))))
      (pss_cons (ps_set (i := 4) scDe.nd rfl (.inl rfl) (pe_ix ix_list (pe_lst (pa_cons pe_str (pa_cons pe_str (pa_cons pe_str (pa_cons pe_str (pa_cons pe_str pa_nil)))))) (pe_call cNx.G hr1 rfl cNx.m cNx.kp cNx.b .nil pass0 (pa_cons (pv 0) (pa_cons pe_int pa_nil))) (fun _ _ => rfl)))
      (pss_cons (ps_set (i := 5) scDe.nd rfl (.inl rfl) (pe_op op_mod (pe_callTy call_int1 (by rfl) T.int (by decide +kernel) (pa_cons (pe_op op_add (pe_op op_add (pv 2) pe_int) (pe_call cNx.G hr1 rfl cNx.m cNx.kp cNx.b .nil pass0 (pa_cons (pv 0) (pa_cons (pv 1) pa_nil)))) pa_nil)) (pv 1)))
      (C8.pss_cut (ps_if (PW.pt (pw_and (pt_cmpR op_eq (pv 5) (pv 2) (nomark _)) (pw_and1 (pt_cmpR op_ne (pv 4) pe_str (nomark _)))))
        (pss_one (ps_set (i := 4) scDe.nd rfl (.inl rfl) pe_str))
        pss_nil)
      (pss_one (ps_ret (pe_tup (pa_cons (pv 4) (pa_cons (pv 2) (pa_cons (pv 5) (pa_cons (pe_call cLo.G hr33 rfl cLo.m cLo.kp cLo.b .nil pass0 (pa_cons (pe_ix ix_tup (pv 3) pe_int (fun _ _ => rfl)) (pa_cons (pe_ix ix_tup (pv 3) pe_int (fun _ _ => rfl)) pa_nil))) pa_nil))))))))))), ?_⟩
    refine ⟨_, rfl, _, rfl, a, cl, n, rfl, hF, by omega, by omega, fun i H1 i0 i1 f1 b1 => ?_⟩
    refine ⟨_, rfl, (by show 4 ≤ sizeLine; decide), fun l1 nl1 => ?_⟩
    have s2 : Same H1 (upd H1 l1 (.lst [.int 1, .int (-1), .int 2, .int 3])) := Same.upd nl1
    have hl1 : (upd H1 l1 (.lst [.int 1, .int (-1), .int 2, .int 3])) l1 = some (.lst [.int 1, .int (-1), .int 2, .int 3]) := upd_same
    generalize upd H1 l1 (.lst [.int 1, .int (-1), .int 2, .int 3]) = H2 at *
    refine ⟨_, rfl, a, cl, 4, rfl, f1.same s2, by decide, by decide, fun y H3 y0 y1 f3 b3 => ?_⟩
    have n1a : l1 ≠ a := (f1.ne_new nl1).1
    obtain ⟨v1, a1, z1', c1⟩ := at4 y0 y1
    refine ⟨l1, _, _, _, rfl, rfl, SqL.of (b3 _ _ hl1 n1a), a1, ?_⟩
    refine ⟨(by show 5 ≤ sizeLine; decide), fun l2 nl2 => ?_⟩
    have s4 : Same H3 (upd H3 l2 (.lst [.int 1, .int 1, .int 1, .int 2, .int 3])) := Same.upd nl2
    have hl2 : (upd H3 l2 (.lst [.int 1, .int 1, .int 1, .int 2, .int 3])) l2 = some (.lst [.int 1, .int 1, .int 1, .int 2, .int 3]) := upd_same
    generalize upd H3 l2 (.lst [.int 1, .int 1, .int 1, .int 2, .int 3]) = H4 at *
    have n2a : l2 ≠ a := (f3.ne_new nl2).1
    refine ⟨_, rfl, a, cl, 5, rfl, f3.same s4, by decide, by decide, fun y H5 y0 y1 f5 b5 => ?_⟩
    obtain ⟨v2, a2, z2, c2⟩ := at5 y0 y1
    refine ⟨l2, _, _, _, rfl, rfl, SqL.of (b5 _ _ hl2 n2a), a2, (by show 2 ≤ sizeLine; decide), fun ft nft => ?_⟩
    have s6 : Same H5 (upd H5 ft (.tup [.int v1, .int v2])) := Same.upd nft
    have hft : (upd H5 ft (.tup [.int v1, .int v2])) ft = some (.tup [.int v1, .int v2]) := upd_same
    generalize upd H5 ft (.tup [.int v1, .int v2]) = H6 at *
    have nfa : ft ≠ a := (f5.ne_new nft).1
    have f6 := f5.same s6
    have b6 : But a H H6 := b1.trans ((Same.but s2).trans (b3.trans ((Same.but s4).trans (b5.trans (Same.but s6)))))
    refine ⟨(by show 5 ≤ sizeLine; decide), fun l3 nl3 => ?_⟩
    have s7 : Same H6 (upd H6 l3 (.lst [.str "add", .str "add", .str "add", .str "scale", .str "swap"])) := Same.upd nl3
    have hl3 : (upd H6 l3 (.lst [.str "add", .str "add", .str "add", .str "scale", .str "swap"])) l3 = some (.lst [.str "add", .str "add", .str "add", .str "scale", .str "swap"]) := upd_same
    generalize upd H6 l3 (.lst [.str "add", .str "add", .str "add", .str "scale", .str "swap"]) = H7 at *
    have n3a : l3 ≠ a := (f6.ne_new nl3).1
    refine ⟨_, rfl, a, cl, 5, rfl, f6.same s7, by decide, by decide, fun y H8 y0 y1 f8 b8 => ?_⟩
    obtain ⟨kd, ak⟩ := atk y0 y1
    refine ⟨l3, _, _, _, rfl, rfl, SqL.of (b8 _ _ hl3 n3a), ak, ?_⟩
    have b8' := b6.trans ((Same.but s7).trans b8)
    have hft8 := b8 _ _ (s7 _ _ hft) nfa
    refine ⟨_, rfl, _, _, rfl, rfl, _, rfl, _, rfl, a, cl, n, rfl, f8, by omega, by omega, fun z H9 z0 z1 f9 b9 => ⟨_, _, rfl, rfl, .inl ⟨_, rfl, _, rfl, _, _, rfl, rfl, by omega, ?_⟩⟩⟩
    have b9' := b8'.trans b9
    have hft9 := b9 _ _ hft8 nfa
    have m0 : 0 ≤ (i + 1 + z) % (n : Int) := Int.emod_nonneg _ (by omega)
    have m1 : (i + 1 + z) % (n : Int) < n := Int.emod_lt_of_pos _ (by omega)
    obtain ⟨i, rfl⟩ : ∃ i' : Nat, i = (i' : Int) := ⟨i.toNat, by omega⟩
    obtain ⟨j, ej⟩ : ∃ j' : Nat, ((i : Int) + 1 + z) % (n : Int) = (j' : Int) := ⟨(((i : Int) + 1 + z) % (n : Int)).toNat, by omega⟩
    have eσ : ∀ kd : Knd, [some (V.ref a), some (.int (n : Int)), some (.int (i : Int)), some (.ref ft), some (.str kd.s), some (.int (((i : Int) + 1 + z) % (n : Int)))] = [some (V.ref a), some (.int (n : Int)), some (.int (i : Int)), some (.ref ft), some (.str kd.s), some (.int (j : Int))] := fun kd => by rw [ej]
    refine ⟨fun σ' H' => ∃ kd : Knd, σ' = [some (.ref a), some (.int (n : Int)), some (.int (i : Int)), some (.ref ft), some (.str kd.s), some (.int (j : Int))] ∧ H' = H9, ?_, ?_⟩
    · refine ⟨_, rfl, _, rfl, rfl, _, rfl, ?_⟩
      refine ite2 (fun _ => ?_) (fun _ => ⟨kd, eσ kd, rfl⟩)
      refine ⟨_, rfl, rfl, _, rfl, ?_⟩
      exact ite2 (fun _ => ⟨.none, eσ .none, rfl⟩) fun _ => ⟨kd, eσ kd, rfl⟩
    · rintro σ' H' ⟨kd, rfl, rfl⟩
      refine ⟨_, rfl, _, rfl, _, rfl, _, rfl, ft, _, 0, _, rfl, rfl, SqT.of hft9, rfl, _, rfl, ft, _, 1, _, rfl, rfl, SqT.of hft9, rfl, v1, v2, rfl, z2, fun r H10 s10 nr hR => ?_⟩
      obtain ⟨q, e1, e2, l1', l2', ne, _⟩ := low_of (n := v1) z2
      rw [e1, e2] at hR
      refine ⟨(by show 4 ≤ sizeLine; decide), fun dd ndd => ?_⟩
      have s11 : Same H10 (upd H10 dd (.tup [.str kd.s, .int (i : Int), .int (j : Int), .ref r])) := Same.upd ndd
      exact kk dd kd i j q _ ((f9.same s10).same s11) (b9'.trans (Same.but (s10.trans s11))) ⟨r, upd_same, s11 _ _ hR⟩ (by omega) (by omega) ⟨ne z1', by omega, by omega⟩
end
end RX

set_option Elab.async false
set_option maxRecDepth 100000
namespace RX
open PySem L2 LX VA VM VN EB
open RQ (Hg Bt)
abbrev sUnseen : Stmt := topS 55
theorem scUs : FnScope ["parts", "tape", "size", "letter", "step", "at", "row", "place"] ["parts", "tape"] (defScope sUnseen) := ⟨rfl, rfl, rfl, by decide +kernel, rfl, by decide +kernel, by decide +kernel⟩
abbrev sUnreached : Stmt := topS 56
theorem scUr : FnScope ["parts", "tape", "size", "letter", "step", "at", "row", "place"] ["parts", "tape"] (defScope sUnreached) := ⟨rfl, rfl, rfl, by decide +kernel, rfl, by decide +kernel, by decide +kernel⟩
structure MidN (H : Hp) (p : Addr) (h n n' : Nat) (ra : Nat → Addr) (S S' : Rat → Prop) (k : Nat) : Prop where
  hp : H p = some (.lst ((List.range h).map fun i => V.ref (ra i)))
  a : ∀ i, i < k → i < h → RowM H (ra i) n' S'
  b : ∀ i, k ≤ i → i < h → RowM H (ra i) n S
theorem MidN.fr {W : Addr → Prop} {H H' : Hp} {p : Addr} {h n n' k : Nat} {ra : Nat → Addr} {S S' : Rat → Prop} (m : MidN H p h n n' ra S S' k) (f : Fr W H H') (w : ¬ W p) (v : ∀ i, i < h → ¬ W (ra i)) : MidN H' p h n n' ra S S' k := ⟨f.get m.hp w, fun i a b => (m.a i a b).fr f (v i b), fun i a b => (m.b i a b).fr f (v i b)⟩
theorem MidN.step {H0 H H' : Hp} {O : Addr → Prop} {p : Addr} {h m0 n n' k : Nat} {ra : Nat → Addr} {S0 S S' : Rat → Prop} (m : MidN H p h n n' ra S S' k) (t : TabR H0 O p h m0 ra S0) (hk : k < h) (f : Fr (K1 (ra k)) H H') (r : RowM H' (ra k) n' S') : MidN H' p h n n' ra S S' (k + 1) := by
  refine ⟨f.get m.hp fun z => t.ne k hk z.symm, fun i h1 h2 => ?_, fun i h1 h2 => ?_⟩
  · by_cases e : i = k
    · rw [e]; exact r
    · exact (m.a i (by omega) h2).fr f fun z => e (t.inj i h2 k hk z)
  · exact (m.b i (by omega) h2).fr f fun z => absurd (t.inj i h2 k hk z) (by omega)
/-- one more row -/
theorem TabR.push {H0 H : Hp} {O : Addr → Prop} {p D : Addr} {h m0 n : Nat} {ra : Nat → Addr} {S0 S : Rat → Prop} (t : TabR H0 O p h m0 ra S0) (hp : H p = some (.lst ((List.range h).map fun i => V.ref (ra i)))) (rows : ∀ i, i < h → RowM H (ra i) n S) (al : Alc O H) (nO : ¬ O D) (r : RowM H D n S) :
    TabR (upd H p (.lst (((List.range h).map fun i => V.ref (ra i)) ++ [.ref D]))) (And1 O D) p (h + 1) n (ext ra h D) S := by
  have f : Fr (K1 p) H (upd H p (.lst (((List.range h).map fun i => V.ref (ra i)) ++ [.ref D]))) := Fr.updL rfl hp
  have Dp : D ≠ p := fun z => nO (by rw [z]; exact t.op)
  refine ⟨?_, .inl t.op, fun i hi => ?_, fun i hi => ?_, fun i hi j hj e => ?_, fun i hi => ?_, (al.and r.there).keep f.k⟩
  · rw [upd_same, List.range_succ, List.map_append]
    congr 3
    · exact List.map_congr_left fun i hi => by rw [ext_lt ra D (List.mem_range.mp hi)]
    · show [V.ref D] = [V.ref (ext ra h D h)]
      rw [ext_same]
  · by_cases e : i = h
    · rw [e, ext_same]; exact .inr rfl
    · rw [ext_lt ra D (by omega)]; exact .inl (t.orr i (by omega))
  · by_cases e : i = h
    · rw [e, ext_same]; exact Dp
    · rw [ext_lt ra D (by omega)]; exact t.ne i (by omega)
  · by_cases e1 : i = h
    · by_cases e2 : j = h
      · omega
      · rw [e1, ext_same, ext_lt ra D (by omega)] at e
        exact absurd (by rw [e]; exact t.orr j (by omega)) nO
    · by_cases e2 : j = h
      · rw [e2, ext_same, ext_lt ra D (by omega)] at e
        exact absurd (by rw [← e]; exact t.orr i (by omega)) nO
      · rw [ext_lt ra D (by omega), ext_lt ra D (by omega)] at e
        exact t.inj i (by omega) j (by omega) e
  · by_cases e : i = h
    · rw [e, ext_same]; exact r.fr f fun z => Dp z
    · rw [ext_lt ra D (by omega)]
      exact (rows i (by omega)).fr f fun z => t.ne i (by omega) z
/-- what O and the tape may change -/
def Ta (O : Addr → Prop) (a : Addr) : Addr → Prop := fun b => O b ∨ b = a
def spUs : Sp := fun vs H Q _ => ∃ (O : Addr → Prop) (q a cl : Addr) (k n : Nat) (S S' : Rat → Prop), vs = [.ref q, .ref a] ∧ Pm H O q k n S ∧ FeedAt H a cl ∧ (∀ b, O b → b ≠ a ∧ b ≠ cl) ∧ n ≤ 900 ∧ k ≤ 4 ∧ (∀ r, S r → S' r) ∧ (∀ r, Sml r → S' r) ∧
  ∀ (H' : Hp) (O' : Addr → Prop), (∀ b, O' b → O b ∨ H b = none) → Fr (Ta O a) H H' → FeedAt H' a cl → Pm H' O' q k (n + 1) S' → Q .non H'
section
variable {P : Program} {w : World} {K : PySem.W.Frag} {mg : Str → Option Value} {base : Heap}
theorem free_fr {W : Addr → Prop} {H G : Hp} {b : Addr} (f : Fr W H G) (h : G b = none) : H b = none := f.k.free h
theorem ok_us {f fP : Addr} {fd dP : FuncData} (F : Fun K "_law_unseen" "_law_unseen" sUnseen f fd) (T : TxtL mg) (cPr : CalN P w K mg base "_law_pair" 34 ["tape"] spPr fP dP) : FnOk P w K mg base CX0 35 f fd ["parts", "tape"] spUs := by
  refine F.ok scUs (fun vs H Q E h => ?_) (fun cdv A outer s H vs Q E hr h => ?_)
  · obtain ⟨O, q, a, cl, k, n, S, S', rfl, _⟩ := h
    rfl
  · obtain ⟨O, q, a, cl, k, n, S, S', rfl, ⟨ps, pt, pe, sa, X, m⟩, hF, dis, hn, hk, up, sm, kk⟩ := h
    have hr34 : Room 34 _ := hr
    obtain ⟨xs, hxs, lxs, _⟩ := m.rs.ex
    have aO : ¬ O a := fun z => (dis a z).1 rfl
    have dis2 : ∀ b, O b ∨ H b = none → b ≠ a ∧ b ≠ cl := fun b z => by
      rcases z with z | z
      · exact dis b z
      · exact ⟨fun e => hF.there (by rw [← e]; exact z), fun e => by obtain ⟨ys, h⟩ := hF.lst2; rw [← e, z] at h; cases h⟩
    refine ⟨_, pss_cons (ps_set (i := 2) scUs.nd rfl (.inl rfl) (pe_callB call_len_seq (by rfl) T.len PySem.boot_len (pa_cons (pe_ix ix_list (pv 0) pe_int (fun _ _ => rfl)) pa_nil)))
      (pss_cons (ps_expr (pe_bm PySem.F.plainAttrs_list PySem.F.slot_list_append PySem.F.type_list_append mt_append (pe_ix ix_list (pv 0) pe_int (fun _ _ => rfl)) (pa_cons (pe_call cPr.G hr34 rfl cPr.m cPr.kp cPr.b .nil pass0 (pa_cons (pv 1) pa_nil)) pa_nil)))
      (pss_cons (ps_for PassesOwn.never rfl (pi_range1 (by rfl) T.range (pa_cons (pe_ix ix_list (pv 0) pe_int (fun _ _ => rfl)) pa_nil)) (pg_name (i := 3) scUs.nd rfl (.inl rfl))
        (pss_cons (ps_set (i := 4) scUs.nd rfl (.inl rfl) (pe_ix ix_list (pe_ix ix_list (pv 0) pe_int (fun _ _ => rfl)) (pv 3) (fun _ _ => rfl)))
        (pss_cons (ps_for PassesOwn.never rfl (pi_range1 (by rfl) T.range (pa_cons (pv 2) pa_nil)) (pg_name (i := 5) scUs.nd rfl (.inl rfl))
          (pss_cons (ps_set (i := 6) scUs.nd rfl (.inl rfl) (pe_ix ix_list (pv 4) (pv 5) (fun _ _ => rfl)))
          (pss_one (ps_expr (pe_bm PySem.F.plainAttrs_list PySem.F.slot_list_append PySem.F.type_list_append mt_append (pv 6) (pa_cons (pe_call cPr.G hr34 rfl cPr.m cPr.kp cPr.b .nil pass0 (pa_cons (pv 1) pa_nil)) pa_nil))))))
        (pss_one (ps_expr (pe_bm PySem.F.plainAttrs_list PySem.F.slot_list_append PySem.F.type_list_append mt_append (pv 4) (pa_cons (pe_op op_cat (pe_lc (own := [("place", 7)]) (g := gName 7) (tt := tYes) rfl scUs.nd (pi_range1 (by rfl) T.range (pa_cons (pv 2) pa_nil)) (blkOk_by (N := ["parts", "tape", "size", "letter", "step", "at", "row", "place"]) (sc := (defScope sUnseen)) (by decide +kernel)) (fun _ _ _ _ _ => (pg_name (i := 7) scUs.nd rfl (.inl rfl))) (fun _ _ _ _ _ => pts_nil) (fun _ _ _ _ _ => (pe_tup (pa_cons pe_int (pa_cons pe_int pa_nil))))) (pe_lst (pa_cons (pe_call cPr.G hr34 rfl cPr.m cPr.kp cPr.b .nil pass0 (pa_cons (pv 1) pa_nil)) pa_nil))) pa_nil)))))))
      (pss_one (ps_expr (pe_bm PySem.F.plainAttrs_list PySem.F.slot_list_append PySem.F.type_list_append mt_append (pe_ix ix_list (pv 0) pe_int (fun _ _ => rfl)) (pa_cons (pe_tup (pa_cons pe_int (pa_cons pe_int pa_nil))) pa_nil)))))), ?_⟩
    refine ⟨_, rfl, q, _, 1, _, rfl, rfl, SqL.of m.hq, rfl, ps, xs, rfl, .inl (SqL.of hxs), ?_⟩
    rw [lxs]
    refine ⟨_, rfl, q, _, 1, _, rfl, rfl, SqL.of m.hq, rfl, .inl ⟨rfl, _, SqL.of hxs⟩, _, rfl, a, cl, rfl, hF, fun r1 v1 G1 f1 b1 nr1 hr1 sm1 => ?_⟩
    have g1 : Fr (K1 a) H G1 := Fr.but b1 hF f1
    have m1 := m.fr g1 fun b z e => aO (by rw [← show b = a from e]; exact z)
    have hxs1 := g1.get hxs fun e => aO (by rw [← show ps = a from e]; exact m.os)
    refine ⟨ps, xs, _, rfl, rfl, hxs1, by rw [lxs]; exact small1000 (by omega), ?_⟩
    have g2 : Fr (K1 ps) G1 (upd G1 ps (.lst (xs ++ [.ref r1]))) := Fr.updL rfl hxs1
    have m2 := m1.setS g2 (fun _ z _ => z) ((m1.rs.mono up).push hxs1 ⟨r1, v1, rfl, hr1, sm _ sm1⟩)
    have f2 := f1.fr g2 (fun e => (dis ps m.os).1 e.symm) (fun e => (dis ps m.os).2 e.symm)
    have g12 : Fr (Ta O a) H (upd G1 ps (.lst (xs ++ [.ref r1]))) := (g1.more fun b z => .inr z).trans (g2.more fun b z => .inl (by rw [z]; exact m.os))
    generalize upd G1 ps (.lst (xs ++ [.ref r1])) = G2 at *
    refine ⟨_, rfl, q, _, 0, _, rfl, rfl, SqL.of m2.hq, rfl, k, rfl, by omega, by omega, for_range (n := k) (fun x σ G => ∃ o3 o4 o5 o6 O2 X2, σ = [some (.ref q), some (.ref a), some (.int (n : Int)), o3, o4, o5, o6, none] ∧ (∀ b, O2 b → O b ∨ H b = none) ∧ Fr (Ta O a) H G ∧ FeedAt G a cl ∧ PtG G O2 q ps pt pe k sa X2 (n + 1) n (fun y => if y < x then n + 1 else n) S' S (fun y => if y < x then S' else S))
      ⟨none, none, none, none, O, X, rfl, fun b z => .inl z, g12, f2, m2.cong (fun x hx => by rw [if_neg (by omega)]) fun x hx => by rw [if_neg (by omega)]⟩ ?_ ?_⟩
    · rintro x σ G hx ⟨o3, o4, o5, o6, O2, X2, rfl, sub, f3, fe3, m3⟩
      obtain ⟨ra, tx⟩ := m3.tt x hx
      rw [if_neg (by omega), if_neg (by omega)] at tx
      have XO2 : ∀ b, X2 x b → O2 b := fun b z => (m3.ox x hx b z).1
      have XO : ∀ b, X2 x b → O b ∨ H b = none := fun b z => sub b (XO2 b z)
      have disX : ∀ b, X2 x b → b ≠ a ∧ b ≠ cl := fun b z => dis2 b (XO b z)
      refine ⟨_, rfl, q, _, 2, _, rfl, rfl, SqL.of m3.hq, rfl, _, rfl, pt, _, _, _, rfl, rfl, SqL.of m3.ht, at_of (Int.zero_add _) (TabR.get hx), ?_⟩
      refine ⟨_, rfl, n, rfl, by omega, by omega, for_range (n := n) (fun r σ G4 => ∃ o5 o6, σ = [some (.ref q), some (.ref a), some (.int (n : Int)), some (.int (0 + (x : Int))), some (.ref (sa x)), o5, o6, none] ∧ Fr (Ta (X2 x) a) G G4 ∧ FeedAt G4 a cl ∧ MidN G4 (sa x) n n (n + 1) ra S S' r)
        ⟨o5, o6, rfl, Fr.refl, fe3, tx.hp, fun i z => absurd z (by omega), fun i _ z => tx.rows i z⟩ ?_ ?_⟩
      · rintro r σ G4 hrr ⟨o5, o6, rfl, f4, fe4, md⟩
        have row := md.b r (Nat.le_refl _) hrr
        obtain ⟨ys, hys, lys, _⟩ := row.ex
        refine ⟨_, rfl, _, rfl, sa x, _, _, _, rfl, rfl, SqL.of md.hp, at_of (Int.zero_add _) (TabR.get hrr), ?_⟩
        refine ⟨_, rfl, .inl ⟨rfl, _, SqL.of hys⟩, _, rfl, a, cl, rfl, fe4, fun r5 v5 G5 f5 b5 nr5 hr5 sm5 => ?_⟩
        have g5 : Fr (K1 a) G4 G5 := Fr.but b5 fe4 f5
        have ra_a : ∀ i, i < n → ¬ K1 a (ra i) := fun i hi z => (disX _ (tx.orr i hi)).1 z
        have md5 := md.fr g5 (fun z => (disX _ tx.op).1 z) ra_a
        have hys5 := g5.get hys (ra_a r hrr)
        refine ⟨ra r, ys, _, rfl, rfl, hys5, by rw [lys]; exact small1000 (by omega), ?_⟩
        have g6 : Fr (K1 (ra r)) G5 (upd G5 (ra r) (.lst (ys ++ [.ref r5]))) := Fr.updL rfl hys5
        have row6 := ((md5.b r (Nat.le_refl _) hrr).mono up).push hys5 ⟨r5, v5, rfl, hr5, sm _ sm5⟩
        refine ⟨_, _, rfl, (f4.trans (g5.more fun b z => .inr z)).trans (g6.more fun b z => .inl (by rw [z]; exact tx.orr r hrr)), f5.fr g6 (fun e => (disX _ (tx.orr r hrr)).1 e.symm) (fun e => (disX _ (tx.orr r hrr)).2 e.symm), md5.step tx hrr g6 row6⟩
      · rintro σ G4 ⟨o5, o6, rfl, f4, fe4, md⟩
        refine ⟨_, rfl, .inl ⟨rfl, _, SqL.of md.hp⟩, _, rfl, n, rfl, by omega, by omega, fun D nD => ?_⟩
        refine lc_it (walk_range (lo := 0) (n := n)) (fun i G => Bl Emp G4 D i S' G) (bl0 nD) (fun _ _ _ _ => trivial) ?_ ?_
        · rintro i y G5 G6 hi b ⟨rfl, rfl⟩
          refine ⟨rfl, (by show 2 ≤ sizeLine; decide), fun c nc => ?_⟩
          obtain ⟨acc, a1, a2, a3⟩ := b.step (x := .ref c) nD id (Same.fr (Same.upd nc)) ⟨c, 0, rfl, (show PairAt _ c 0 1 from upd_same), sm _ sml0⟩
          exact ⟨acc, a1, by rw [a2]; exact small1000 (by omega), a3⟩
        · rintro G5 b
          have s5 : Same G4 G5 := b.f.k.same
          obtain ⟨acc, hacc, lacc, pacc⟩ := b.done.ex
          refine ⟨_, rfl, a, cl, rfl, fe4.same s5, fun r6 v6 G6 f6 b6 nr6 hr6 sm6 => ?_⟩
          have g6 : Fr (K1 a) G5 G6 := Fr.but b6 (fe4.same s5) f6
          have Da : D ≠ a := (fe4.ne_new nD).1
          refine ⟨(by show 1 ≤ sizeLine; decide), fun l nl => ?_⟩
          have s7 : Same G6 (upd G6 l (.lst [.ref r6])) := Same.upd nl
          have hl : (upd G6 l (.lst [.ref r6])) l = some (.lst [.ref r6]) := upd_same
          generalize upd G6 l (.lst [.ref r6]) = G7 at *
          have hD7 := s7 _ _ (g6.get hacc Da)
          refine ⟨D, l, acc, [.ref r6], rfl, rfl, hD7, hl, by rw [lacc]; exact Nat.le_of_lt (small1000 (show n + 1 ≤ 1000 by omega)), fun D8 nD8 => ?_⟩
          have s8 : Same G7 (upd G7 D8 (.lst (acc ++ [.ref r6]))) := Same.upd nD8
          have row8 : RowM (upd G7 D8 (.lst (acc ++ [.ref r6]))) D8 (n + 1) S' := ⟨_, upd_same, by rw [List.length_append, lacc]; rfl, fun y hy => by
            rcases List.mem_append.mp hy with hy | hy
            · exact (((pacc y hy).fr g6).same s7).same s8
            · rw [List.mem_singleton.mp hy]
              exact ⟨r6, v6, rfl, s8 _ _ (s7 _ _ hr6), sm _ sm6⟩⟩
          generalize upd G7 D8 (.lst (acc ++ [.ref r6])) = G8 at *
          have g48 : Fr (K1 a) G4 G8 := ((Same.fr s5).trans g6).trans (Same.fr (s7.trans s8))
          have nD4 : G4 D8 = none := s5.free (g6.k.free (s7.free nD8))
          have nDG : G D8 = none := f4.k.free nD4
          have nDH : H D8 = none := f3.k.free nDG
          have kX : ∀ b, K1 a b → ¬ X2 x b := fun b z y => (disX b y).1 z
          have md8 := md.fr g48 (fun z => kX _ z tx.op) fun i hi z => kX _ z (tx.orr i hi)
          have nX : ¬ X2 x D8 := fun z => m3.al _ (XO2 _ z) nDG
          have al8 : Alc (X2 x) G8 := tx.al.keep (f4.trans (g48.more fun b z => .inr z)).k
          have t8 := tx.push md8.hp (fun i hi => md8.a i hi hi) al8 nX row8
          refine ⟨sa x, _, _, rfl, rfl, md8.hp, by rw [List.length_map, List.length_range]; exact small1000 (by omega), ?_⟩
          have g9 : Fr (Ta (X2 x) a) G (upd G8 (sa x) (.lst (((List.range n).map fun i => V.ref (ra i)) ++ [.ref D8]))) := (f4.trans (g48.more fun b z => .inr z)).trans (Fr.updL (.inl tx.op) md8.hp)
          have m9 := m3.setX hx g9 (fun b z y => z.elim id fun e => absurd e (dis2 b (sub b y)).1) (fun b z => z.imp id fun e => by rw [e]; exact nDG) t8
          refine ⟨_, _, _, _, _, _, rfl, fun b z => ?_, ?_, ?_, m9.cong (fun y hy => ?_) fun y hy => ?_⟩
          · rcases z with z | z
            · exact sub b z
            · rcases z with z | z
              · exact XO b z
              · exact .inr (by rw [z]; exact nDH)
          · exact Fr.dropS (W := fun b => Ta O a b ∨ X2 x b) ((f3.more fun _ z => .inl z).trans (g9.more fun b z => z.elim .inr fun e => .inl (.inr e))) fun b z => z.elim .inl fun z => (XO b z).imp .inl id
          · exact ((f6.same s7).same s8).fr (Fr.updL (W := K1 (sa x)) rfl md8.hp) (fun e => (disX _ tx.op).1 e.symm) (fun e => (disX _ tx.op).2 e.symm)
          · by_cases e : y = x
            · rw [if_pos e, if_pos (by omega)]
            · rw [if_neg e]
              by_cases e2 : y < x
              · rw [if_pos e2, if_pos (by omega)]
              · rw [if_neg e2, if_neg (by omega)]
          · by_cases e : y = x
            · rw [if_pos e, if_pos (by omega)]
            · rw [if_neg e]
              by_cases e2 : y < x
              · rw [if_pos e2, if_pos (by omega)]
              · rw [if_neg e2, if_neg (by omega)]
    · rintro σ G ⟨o3, o4, o5, o6, O2, X2, rfl, sub, f3, fe3, m3⟩
      obtain ⟨es, hes, les, _⟩ := m3.re.ex
      refine ⟨_, rfl, q, _, 3, _, rfl, rfl, SqL.of m3.hq, rfl, .inl ⟨rfl, _, SqL.of hes⟩, (by show 2 ≤ sizeLine; decide), fun c nc => ?_⟩
      have s4 : Same G (upd G c (.tup [.int 0, .int 1])) := Same.upd nc
      have hc : PrQ (upd G c (.tup [.int 0, .int 1])) c 0 := (show PairAt _ c 0 1 from upd_same)
      generalize upd G c (.tup [.int 0, .int 1]) = G4 at *
      refine ⟨pe, es, _, rfl, rfl, s4 _ _ hes, by rw [les]; exact small1000 (by omega), ?_⟩
      have m4 := m3.same s4
      have g5 : Fr (K1 pe) G4 (upd G4 pe (.lst (es ++ [.ref c]))) := Fr.updL rfl (s4 _ _ hes)
      have m5 := m4.setE g5 (fun _ z _ => z) ((m4.re.mono up).push (s4 _ _ hes) ⟨c, 0, rfl, hc, sm _ sml0⟩)
      have pO := sub _ m3.oe
      refine kk _ O2 sub ?_ ((fe3.same s4).fr g5 (fun e => (dis2 _ pO).1 e.symm) (fun e => (dis2 _ pO).2 e.symm)) ⟨ps, pt, pe, sa, X2, m5.cong (fun x hx => by rw [if_pos hx]) fun x hx => by rw [if_pos hx]⟩
      exact (f3.trans (Same.fr s4)).trans (g5.more fun b z => .inl (by rw [z]; exact m.oe))
end
end RX

set_option Elab.async false
set_option maxRecDepth 100000
namespace RX
open PySem L2 LX VA VM VN EB
open RQ (Hg Bt)
section
variable {P : Program} {w : World} {K : PySem.W.Frag} {mg : Str → Option Value} {base : Heap}
theorem ok_ur {f fP : Addr} {fd dP : FuncData} (F : Fun K "_law_unreached" "_law_unreached" sUnreached f fd) (T : TxtL mg) (cPr : CalN P w K mg base "_law_pair" 34 ["tape"] spPr fP dP) : FnOk P w K mg base CX0 35 f fd ["parts", "tape"] spUs := by
  refine F.ok scUr (fun vs H Q E h => ?_) (fun cdv A outer s H vs Q E hr h => ?_)
  · obtain ⟨O, q, a, cl, k, n, S, S', rfl, _⟩ := h
    rfl
  · obtain ⟨O, q, a, cl, k, n, S, S', rfl, ⟨ps, pt, pe, sa, X, m⟩, hF, dis, hn, hk, up, sm, kk⟩ := h
    have hr34 : Room 34 _ := hr
    obtain ⟨xs, hxs, lxs, _⟩ := m.rs.ex
    have aO : ¬ O a := fun z => (dis a z).1 rfl
    have dis2 : ∀ b, O b ∨ H b = none → b ≠ a ∧ b ≠ cl := fun b z => by
      rcases z with z | z
      · exact dis b z
      · exact ⟨fun e => hF.there (by rw [← e]; exact z), fun e => by obtain ⟨ys, h⟩ := hF.lst2; rw [← e, z] at h; cases h⟩
    refine ⟨_, pss_cons (ps_set (i := 2) scUr.nd rfl (.inl rfl) (pe_callB call_len_seq (by rfl) T.len PySem.boot_len (pa_cons (pe_ix ix_list (pv 0) pe_int (fun _ _ => rfl)) pa_nil)))
      (pss_cons (ps_expr (pe_bm PySem.F.plainAttrs_list PySem.F.slot_list_append PySem.F.type_list_append mt_append (pe_ix ix_list (pv 0) pe_int (fun _ _ => rfl)) (pa_cons (pe_tup (pa_cons pe_int (pa_cons pe_int pa_nil))) pa_nil)))
      (pss_cons (ps_for PassesOwn.never rfl (pi_range1 (by rfl) T.range (pa_cons (pe_ix ix_list (pv 0) pe_int (fun _ _ => rfl)) pa_nil)) (pg_name (i := 3) scUr.nd rfl (.inl rfl))
        (pss_cons (ps_set (i := 4) scUr.nd rfl (.inl rfl) (pe_ix ix_list (pe_ix ix_list (pv 0) pe_int (fun _ _ => rfl)) (pv 3) (fun _ _ => rfl)))
        (pss_cons (ps_for PassesOwn.never rfl (pi_range1 (by rfl) T.range (pa_cons (pv 2) pa_nil)) (pg_name (i := 5) scUr.nd rfl (.inl rfl))
          (pss_cons (ps_set (i := 6) scUr.nd rfl (.inl rfl) (pe_ix ix_list (pv 4) (pv 5) (fun _ _ => rfl)))
          (pss_one (ps_expr (pe_bm PySem.F.plainAttrs_list PySem.F.slot_list_append PySem.F.type_list_append mt_append (pv 6) (pa_cons (pe_tup (pa_cons pe_int (pa_cons pe_int pa_nil))) pa_nil))))))
        (pss_one (ps_expr (pe_bm PySem.F.plainAttrs_list PySem.F.slot_list_append PySem.F.type_list_append mt_append (pv 4) (pa_cons (pe_lc (own := [("place", 7)]) (g := gName 7) (tt := tYes) rfl scUr.nd (pi_range1 (by rfl) T.range (pa_cons (pe_op op_add (pv 2) pe_int) pa_nil)) (blkOk_by (N := ["parts", "tape", "size", "letter", "step", "at", "row", "place"]) (sc := (defScope sUnreached)) (by decide +kernel)) (fun _ _ _ _ _ => (pg_name (i := 7) scUr.nd rfl (.inl rfl))) (fun _ _ _ _ _ => pts_nil) (fun _ _ _ _ _ => (pe_call cPr.G hr34 rfl cPr.m cPr.kp cPr.b .nil pass0 (pa_cons (pv 1) pa_nil)))) pa_nil)))))))
      (pss_one (ps_expr (pe_bm PySem.F.plainAttrs_list PySem.F.slot_list_append PySem.F.type_list_append mt_append (pe_ix ix_list (pv 0) pe_int (fun _ _ => rfl)) (pa_cons (pe_call cPr.G hr34 rfl cPr.m cPr.kp cPr.b .nil pass0 (pa_cons (pv 1) pa_nil)) pa_nil)))))), ?_⟩
    refine ⟨_, rfl, q, _, 1, _, rfl, rfl, SqL.of m.hq, rfl, ps, xs, rfl, .inl (SqL.of hxs), ?_⟩
    rw [lxs]
    refine ⟨_, rfl, q, _, 1, _, rfl, rfl, SqL.of m.hq, rfl, .inl ⟨rfl, _, SqL.of hxs⟩, (by show 2 ≤ sizeLine; decide), fun c nc => ?_⟩
    have s1 : Same H (upd H c (.tup [.int 0, .int 1])) := Same.upd nc
    have hc : PrQ (upd H c (.tup [.int 0, .int 1])) c 0 := (show PairAt _ c 0 1 from upd_same)
    generalize upd H c (.tup [.int 0, .int 1]) = G1 at *
    have m1 := m.same s1
    have hxs1 := s1 _ _ hxs
    refine ⟨ps, xs, _, rfl, rfl, hxs1, by rw [lxs]; exact small1000 (by omega), ?_⟩
    have g2 : Fr (K1 ps) G1 (upd G1 ps (.lst (xs ++ [.ref c]))) := Fr.updL rfl hxs1
    have m2 := m1.setS g2 (fun _ z _ => z) ((m1.rs.mono up).push hxs1 ⟨c, 0, rfl, hc, sm _ sml0⟩)
    have f2 := (hF.same s1).fr g2 (fun e => (dis ps m.os).1 e.symm) (fun e => (dis ps m.os).2 e.symm)
    have g12 : Fr (Ta O a) H (upd G1 ps (.lst (xs ++ [.ref c]))) := (Same.fr s1).trans (g2.more fun b z => .inl (by rw [z]; exact m.os))
    generalize upd G1 ps (.lst (xs ++ [.ref c])) = G2 at *
    refine ⟨_, rfl, q, _, 0, _, rfl, rfl, SqL.of m2.hq, rfl, k, rfl, by omega, by omega, for_range (n := k) (fun x σ G => ∃ o3 o4 o5 o6 O2 X2, σ = [some (.ref q), some (.ref a), some (.int (n : Int)), o3, o4, o5, o6, none] ∧ (∀ b, O2 b → O b ∨ H b = none) ∧ Fr (Ta O a) H G ∧ FeedAt G a cl ∧ PtG G O2 q ps pt pe k sa X2 (n + 1) n (fun y => if y < x then n + 1 else n) S' S (fun y => if y < x then S' else S))
      ⟨none, none, none, none, O, X, rfl, fun b z => .inl z, g12, f2, m2.cong (fun x hx => by rw [if_neg (by omega)]) fun x hx => by rw [if_neg (by omega)]⟩ ?_ ?_⟩
    · rintro x σ G hx ⟨o3, o4, o5, o6, O2, X2, rfl, sub, f3, fe3, m3⟩
      obtain ⟨ra, tx⟩ := m3.tt x hx
      rw [if_neg (by omega), if_neg (by omega)] at tx
      have XO2 : ∀ b, X2 x b → O2 b := fun b z => (m3.ox x hx b z).1
      have XO : ∀ b, X2 x b → O b ∨ H b = none := fun b z => sub b (XO2 b z)
      have disX : ∀ b, X2 x b → b ≠ a ∧ b ≠ cl := fun b z => dis2 b (XO b z)
      refine ⟨_, rfl, q, _, 2, _, rfl, rfl, SqL.of m3.hq, rfl, _, rfl, pt, _, _, _, rfl, rfl, SqL.of m3.ht, at_of (Int.zero_add _) (TabR.get hx), ?_⟩
      refine ⟨_, rfl, n, rfl, by omega, by omega, for_range (n := n) (fun r σ G4 => ∃ o5 o6, σ = [some (.ref q), some (.ref a), some (.int (n : Int)), some (.int (0 + (x : Int))), some (.ref (sa x)), o5, o6, none] ∧ Fr (Ta (X2 x) a) G G4 ∧ FeedAt G4 a cl ∧ MidN G4 (sa x) n n (n + 1) ra S S' r)
        ⟨o5, o6, rfl, Fr.refl, fe3, tx.hp, fun i z => absurd z (by omega), fun i _ z => tx.rows i z⟩ ?_ ?_⟩
      · rintro r σ G4 hrr ⟨o5, o6, rfl, f4, fe4, md⟩
        have row := md.b r (Nat.le_refl _) hrr
        obtain ⟨ys, hys, lys, _⟩ := row.ex
        refine ⟨_, rfl, _, rfl, sa x, _, _, _, rfl, rfl, SqL.of md.hp, at_of (Int.zero_add _) (TabR.get hrr), ?_⟩
        refine ⟨_, rfl, .inl ⟨rfl, _, SqL.of hys⟩, (by show 2 ≤ sizeLine; decide), fun c nc => ?_⟩
        have s5 : Same G4 (upd G4 c (.tup [.int 0, .int 1])) := Same.upd nc
        have hc : PrQ (upd G4 c (.tup [.int 0, .int 1])) c 0 := (show PairAt _ c 0 1 from upd_same)
        generalize upd G4 c (.tup [.int 0, .int 1]) = G5 at *
        have md5 := md.fr (Same.fr (W := Emp) s5) id fun _ _ => id
        have hys5 := s5 _ _ hys
        refine ⟨ra r, ys, _, rfl, rfl, hys5, by rw [lys]; exact small1000 (by omega), ?_⟩
        have g6 : Fr (K1 (ra r)) G5 (upd G5 (ra r) (.lst (ys ++ [.ref c]))) := Fr.updL rfl hys5
        have row6 := ((md5.b r (Nat.le_refl _) hrr).mono up).push hys5 ⟨c, 0, rfl, hc, sm _ sml0⟩
        refine ⟨_, _, rfl, (f4.trans (Same.fr s5)).trans (g6.more fun b z => .inl (by rw [z]; exact tx.orr r hrr)), (fe4.same s5).fr g6 (fun e => (disX _ (tx.orr r hrr)).1 e.symm) (fun e => (disX _ (tx.orr r hrr)).2 e.symm), md5.step tx hrr g6 row6⟩
      · rintro σ G4 ⟨o5, o6, rfl, f4, fe4, md⟩
        refine ⟨_, rfl, .inl ⟨rfl, _, SqL.of md.hp⟩, _, rfl, _, _, rfl, rfl, n + 1, rfl, by omega, by omega, fun D8 nD8 => ?_⟩
        have Da : D8 ≠ a := (fe4.ne_new nD8).1
        have Dc : D8 ≠ cl := (fe4.ne_new nD8).2
        have f0 : FeedAt (upd G4 D8 (.lst [])) a cl := fe4.other Da Dc
        refine lc_it (walk_range (lo := 0) (n := n + 1)) (fun i G => Bl (K1 a) G4 D8 i S' G ∧ FeedAt G a cl) ⟨bl0 nD8, f0⟩ (fun _ _ _ _ => trivial) ?_ ?_
        · rintro i y G5 G6 hi ⟨b, fb⟩ ⟨rfl, rfl⟩
          refine ⟨rfl, _, rfl, a, cl, rfl, fb, fun r7 v7 G7 f7 b7 nr7 hr7 sm7 => ?_⟩
          obtain ⟨acc, a1, a2, a3⟩ := b.step (x := .ref r7) nD8 (fun z => Da z) (Fr.but b7 fb f7) ⟨r7, v7, rfl, hr7, sm _ sm7⟩
          exact ⟨acc, a1, by rw [a2]; exact small1000 (by omega), a3, f7.other Da Dc⟩
        · rintro G8 ⟨b, f8⟩
          have row8 := b.done
          have g48 := b.f
          have nDG : G D8 = none := f4.k.free nD8
          have nDH : H D8 = none := f3.k.free nDG
          have kX : ∀ b, K1 a b → ¬ X2 x b := fun b z y => (disX b y).1 z
          have md8 := md.fr g48 (fun z => kX _ z tx.op) fun i hi z => kX _ z (tx.orr i hi)
          have nX : ¬ X2 x D8 := fun z => m3.al _ (XO2 _ z) nDG
          have al8 : Alc (X2 x) G8 := tx.al.keep (f4.trans (g48.more fun b z => .inr z)).k
          have t8 := tx.push md8.hp (fun i hi => md8.a i hi hi) al8 nX row8
          refine ⟨sa x, _, _, rfl, rfl, md8.hp, by rw [List.length_map, List.length_range]; exact small1000 (by omega), ?_⟩
          have g9 : Fr (Ta (X2 x) a) G (upd G8 (sa x) (.lst (((List.range n).map fun i => V.ref (ra i)) ++ [.ref D8]))) := (f4.trans (g48.more fun b z => .inr z)).trans (Fr.updL (.inl tx.op) md8.hp)
          have m9 := m3.setX hx g9 (fun b z y => z.elim id fun e => absurd e (dis2 b (sub b y)).1) (fun b z => z.imp id fun e => by rw [e]; exact nDG) t8
          refine ⟨_, _, _, _, _, _, rfl, fun b z => ?_, ?_, ?_, m9.cong (fun y hy => ?_) fun y hy => ?_⟩
          · rcases z with z | z
            · exact sub b z
            · rcases z with z | z
              · exact XO b z
              · exact .inr (by rw [z]; exact nDH)
          · exact Fr.dropS (W := fun b => Ta O a b ∨ X2 x b) ((f3.more fun _ z => .inl z).trans (g9.more fun b z => z.elim .inr fun e => .inl (.inr e))) fun b z => z.elim .inl fun z => (XO b z).imp .inl id
          · exact f8.fr (Fr.updL (W := K1 (sa x)) rfl md8.hp) (fun e => (disX _ tx.op).1 e.symm) (fun e => (disX _ tx.op).2 e.symm)
          · by_cases e : y = x
            · rw [if_pos e, if_pos (by omega)]
            · rw [if_neg e]
              by_cases e2 : y < x
              · rw [if_pos e2, if_pos (by omega)]
              · rw [if_neg e2, if_neg (by omega)]
          · by_cases e : y = x
            · rw [if_pos e, if_pos (by omega)]
            · rw [if_neg e]
              by_cases e2 : y < x
              · rw [if_pos e2, if_pos (by omega)]
              · rw [if_neg e2, if_neg (by omega)]
    · rintro σ G ⟨o3, o4, o5, o6, O2, X2, rfl, sub, f3, fe3, m3⟩
      obtain ⟨es, hes, les, _⟩ := m3.re.ex
      refine ⟨_, rfl, q, _, 3, _, rfl, rfl, SqL.of m3.hq, rfl, .inl ⟨rfl, _, SqL.of hes⟩, _, rfl, a, cl, rfl, fe3, fun r4 v4 G4 f4 b4 nr4 hr4 sm4 => ?_⟩
      have g4 : Fr (K1 a) G G4 := Fr.but b4 fe3 f4
      have m4 := m3.fr g4 fun b z e => (dis2 b (sub b z)).1 e
      have pO := sub _ m3.oe
      have hes4 := g4.get hes fun e => (dis2 _ pO).1 e
      refine ⟨pe, es, _, rfl, rfl, hes4, by rw [les]; exact small1000 (by omega), ?_⟩
      have g5 : Fr (K1 pe) G4 (upd G4 pe (.lst (es ++ [.ref r4]))) := Fr.updL rfl hes4
      have m5 := m4.setE g5 (fun _ z _ => z) ((m4.re.mono up).push hes4 ⟨r4, v4, rfl, hr4, sm _ sm4⟩)
      refine kk _ O2 sub ?_ (f4.fr g5 (fun e => (dis2 _ pO).1 e.symm) (fun e => (dis2 _ pO).2 e.symm)) ⟨ps, pt, pe, sa, X2, m5.cong (fun x hx => by rw [if_pos hx]) fun x hx => by rw [if_pos hx]⟩
      exact (f3.trans (g4.more fun b z => .inr z)).trans (g5.more fun b z => .inl (by rw [z]; exact m.oe))
end
end RX

set_option Elab.async false
set_option maxRecDepth 100000
namespace RX
open PySem L2 LX VA VM VN EB
open RQ (Hg Bt)
abbrev sShadow : Stmt := topS 64
theorem scShw : FnScope ["parts", "table", "width", "tape", "size", "at", "shares", "letter", "step", "ahead", "own", "less", "row", "k"] ["parts", "table", "width", "tape"] (defScope sShadow) := ⟨rfl, rfl, rfl, by decide +kernel, rfl, by decide +kernel, by decide +kernel⟩
/-- sizes for a state that is made of the others -/
structure Shd (S S1 S' : Rat → Prop) : Prop where
  rowS : ∀ n u, (∀ j, j < n → S (u j)) → RowB n 6000 7000 u
  tabS : ∀ h n U, (∀ i, i < h → ∀ j, j < n → S (U i j)) → TabB h n 6000 7000 U
  rowM : ∀ n u, (∀ j, j < n → Sml (u j)) → RowB n 6000 7000 u
  dot : ∀ n u v, n ≤ 8 → (∀ j, j < n → Sml (u j)) → (∀ j, j < n → S (v j)) → S1 (dot u v n)
  hg1 : ∀ q, S1 q → HgQ q
  hgm : ∀ f y, Sml f → Sml y → HgQ (f * y)
  pl : ∀ x f y, S1 x → Sml f → Sml y → S' (x + f * y)
  up : ∀ q, S q → S' q
  up1 : ∀ q, S1 q → S' q
  sm : ∀ q, Sml q → S' q
def Tb (O T : Addr → Prop) (a : Addr) : Addr → Prop := fun b => (O b ∨ T b) ∨ b = a
def spShw : Sp := fun vs H Q _ => ∃ (O OT : Addr → Prop) (q p a cl : Addr) (k n w : Nat) (ra : Nat → Addr) (S S1 S' : Rat → Prop), vs = [.ref q, .ref p, .int (w : Int), .ref a] ∧ Pm H O q k n S ∧ TabR H OT p n w ra S ∧ FeedAt H a cl ∧ (∀ b, O b → b ≠ a ∧ b ≠ cl) ∧ (∀ b, OT b → b ≠ a ∧ b ≠ cl) ∧ (∀ b, O b → ¬ OT b) ∧ n ≤ 8 ∧ w ≤ 1000 ∧ k ≤ 4 ∧ Shd S S1 S' ∧
  ∀ (H' : Hp) (O' OT' : Addr → Prop) (ra' : Nat → Addr), (∀ b, O' b → O b ∨ H b = none) → (∀ b, OT' b → OT b ∨ H b = none) → (∀ b, O' b → ¬ OT' b) → Fr (Tb O OT a) H H' → FeedAt H' a cl → Pm H' O' q k (n + 1) S' → TabR H' OT' p (n + 1) w ra' S' → Q .non H'
section
variable {P : Program} {w : World} {K : PySem.W.Frag} {mg : Str → Option Value} {base : Heap}
theorem ok_shw {f fP fR fS fL fB C : Addr} {fd dP dR dS dL dB : FuncData} (F : Fun K "_law_shadow" "_law_shadow" sShadow f fd) (T : TxtL mg) (cPr : CalN P w K mg base "_law_pair" 34 ["tape"] spPr fP dP) (cRb : CalN P w K mg base "_law_row_by" 36 ["row", "table", "width"] (spRbL C) fR dR) (cSb : CalN P w K mg base "_law_sum_by" 35 ["row", "other"] (spSb C) fS dS)
    (cPl : CalN P w K mg base "_law_plus" 34 ["one", "two"] (spPlu C) fL dL) (cBy : CalN P w K mg base "_law_by" 34 ["one", "two"] (spBy C) fB dB) : FnOk P w K mg base CX0 37 f fd ["parts", "table", "width", "tape"] spShw := by
  refine F.ok scShw (fun vs H Q E h => ?_) (fun cdv A outer s H vs Q E hr h => ?_)
  · obtain ⟨O, OT, q, p, a, cl, k, n, w, ra, S, S1, S', rfl, _⟩ := h
    rfl
  · obtain ⟨O, OT, q, p, a, cl, k, n, w, ra0, S, S1, S', rfl, ⟨ps, pt, pe, sa, X, m⟩, tt, hF, dis, disT, dOT, hn, hw, hk, sh, kk⟩ := h
    have hr36 : Room 36 _ := hr
    have hr35 : Room 35 _ := hr.mono (by decide)
    have hr34 : Room 34 _ := hr.mono (by decide)
    obtain ⟨xs, hxs, lxs, _⟩ := m.rs.ex
    have aO : ¬ O a := fun z => (dis a z).1 rfl
    refine ⟨_, pss_cons (ps_set (i := 4) scShw.nd rfl (.inl rfl) (pe_callB call_len_seq (by rfl) T.len PySem.boot_len (pa_cons (pe_ix ix_list (pv 0) pe_int (fun _ _ => rfl)) pa_nil)))
      (pss_cons (ps_set (i := 6) scShw.nd rfl (.inr rfl) (pe_lc (own := [("at", 5)]) (g := gName 5) (tt := tYes) rfl scShw.nd (pi_range1 (by rfl) T.range (pa_cons (pv 4) pa_nil)) (blkOk_by (N := ["parts", "table", "width", "tape", "size", "at", "shares", "letter", "step", "ahead", "own", "less", "row", "k"]) (sc := (defScope sShadow)) (by decide +kernel)) (fun _ _ _ _ _ => (pg_name (i := 5) scShw.nd rfl (.inl rfl))) (fun _ _ _ _ _ => pts_nil) (fun _ _ _ _ _ => (pe_call cPr.G hr34 rfl cPr.m cPr.kp cPr.b .nil pass0 (pa_cons (pv 3) pa_nil)))))
      (pss_cons (ps_expr (pe_bm PySem.F.plainAttrs_list PySem.F.slot_list_append PySem.F.type_list_append mt_append (pe_ix ix_list (pv 0) pe_int (fun _ _ => rfl)) (pa_cons (pe_tup (pa_cons pe_int (pa_cons pe_int pa_nil))) pa_nil)))
      (pss_cons (ps_for PassesOwn.never rfl (pi_range1 (by rfl) T.range (pa_cons (pe_ix ix_list (pv 0) pe_int (fun _ _ => rfl)) pa_nil)) (pg_name (i := 7) scShw.nd rfl (.inl rfl))
        (pss_cons (ps_set (i := 8) scShw.nd rfl (.inl rfl) (pe_ix ix_list (pe_ix ix_list (pv 0) pe_int (fun _ _ => rfl)) (pv 7) (fun _ _ => rfl)))
        (pss_cons (ps_set (i := 9) scShw.nd rfl (.inr rfl) (pe_call cRb.G hr36 rfl cRb.m cRb.kp cRb.b .nil pass0 (pa_cons (pv 6) (pa_cons (pv 8) (pa_cons (pv 4) pa_nil)))))
        (pss_cons (ps_set (i := 10) scShw.nd rfl (.inl rfl) (pe_call cPr.G hr34 rfl cPr.m cPr.kp cPr.b .nil pass0 (pa_cons (pv 3) pa_nil)))
        (pss_cons (ps_set (i := 11) scShw.nd rfl (.inr rfl) (pe_tup (pa_cons (pe_op op_sub pe_int (pe_ix ix_tup (pv 10) pe_int (fun _ _ => rfl))) (pa_cons (pe_ix ix_tup (pv 10) pe_int (fun _ _ => rfl)) pa_nil))))
        (pss_cons (ps_for PassesOwn.never rfl (pi_range1 (by rfl) T.range (pa_cons (pv 4) pa_nil)) (pg_name (i := 5) scShw.nd rfl (.inl rfl))
          (pss_cons (ps_set (i := 12) scShw.nd rfl (.inl rfl) (pe_ix ix_list (pv 8) (pv 5) (fun _ _ => rfl)))
          (pss_one (ps_expr (pe_bm PySem.F.plainAttrs_list PySem.F.slot_list_append PySem.F.type_list_append mt_append (pv 12) (pa_cons (pe_tup (pa_cons pe_int (pa_cons pe_int pa_nil))) pa_nil))))))
        (pss_one (ps_expr (pe_bm PySem.F.plainAttrs_list PySem.F.slot_list_append PySem.F.type_list_append mt_append (pv 8) (pa_cons (pe_op op_cat (pe_lc (own := [("k", 13)]) (g := gName 13) (tt := tYes) rfl scShw.nd (pi_range1 (by rfl) T.range (pa_cons (pv 4) pa_nil)) (blkOk_by (N := ["parts", "table", "width", "tape", "size", "at", "shares", "letter", "step", "ahead", "own", "less", "row", "k"]) (sc := (defScope sShadow)) (by decide +kernel)) (fun _ _ _ _ _ => (pg_name (i := 13) scShw.nd rfl (.inl rfl))) (fun _ _ _ _ _ => pts_nil) (fun _ _ _ _ _ => (pe_call cPl.G hr34 rfl cPl.m cPl.kp cPl.b .nil pass0 (pa_cons (pe_ix (show IxR _ (rIxL K) from ix_list) (pv 9) (pv 13) (fun _ _ => rfl)) (pa_cons (pe_call cBy.G hr34 rfl cBy.m cBy.kp cBy.b .nil pass0 (pa_cons (pv 11) (pa_cons (pe_ix (show IxR _ (rIxL K) from ix_list) (pv 6) (pv 13) (fun _ _ => rfl)) pa_nil))) pa_nil))))) (pe_lst (pa_cons (pv 10) pa_nil))) pa_nil))))))))))
      (pss_cons (ps_expr (pe_bm PySem.F.plainAttrs_list PySem.F.slot_list_append PySem.F.type_list_append mt_append (pe_ix ix_list (pv 0) pe_int (fun _ _ => rfl)) (pa_cons (pe_call cSb.G hr35 rfl cSb.m cSb.kp cSb.b .nil pass0 (pa_cons (pv 6) (pa_cons (pe_ix ix_list (pv 0) pe_int (fun _ _ => rfl)) pa_nil))) pa_nil)))
      (pss_one (ps_expr (pe_bm PySem.F.plainAttrs_list PySem.F.slot_list_append PySem.F.type_list_append mt_append (pv 1) (pa_cons (pe_call cRb.G hr36 rfl cRb.m cRb.kp cRb.b .nil pass0 (pa_cons (pv 6) (pa_cons (pv 1) (pa_cons (pv 2) pa_nil)))) pa_nil)))))))), ?_⟩
    refine ⟨_, rfl, q, _, 1, _, rfl, rfl, SqL.of m.hq, rfl, ps, xs, rfl, .inl (SqL.of hxs), ?_⟩
    rw [lxs]
    refine ⟨_, rfl, n, rfl, by omega, by omega, fun Dh nDh => ?_⟩
    have Da : Dh ≠ a := (hF.ne_new nDh).1
    have Dc : Dh ≠ cl := (hF.ne_new nDh).2
    have f0 : FeedAt (upd H Dh (.lst [])) a cl := hF.other Da Dc
    refine lc_it (walk_range (lo := 0) (n := n)) (fun i G => Bl (K1 a) H Dh i Sml G ∧ FeedAt G a cl) ⟨bl0 nDh, f0⟩ (fun _ _ _ _ => trivial) ?_ ?_
    · rintro i y G5 G6 hi ⟨b, fb⟩ ⟨rfl, rfl⟩
      refine ⟨rfl, _, rfl, a, cl, rfl, fb, fun r7 v7 G7 f7 b7 nr7 hr7 sm7 => ?_⟩
      obtain ⟨acc, a1, a2, a3⟩ := b.step (x := .ref r7) nDh (fun z => Da z) (Fr.but b7 fb f7) ⟨r7, v7, rfl, hr7, sm7⟩
      exact ⟨acc, a1, by rw [a2]; exact small1000 (by omega), a3, f7.other Da Dc⟩
    rintro G0 ⟨b, fG⟩
    have shr := b.done
    have g0 := b.f
    have m0 := m.fr g0 fun b z e => aO (by rw [← show b = a from e]; exact z)
    have t0 := tt.fr g0 fun b z e => (disT b z).1 e
    have DhO : ¬ O Dh := fun z => m.al _ z nDh
    have DhT : ¬ OT Dh := fun z => tt.al _ z nDh
    have hxs0 := m0.rs.ex
    have hfr0 : ∀ {b : Addr}, G0 b = none → H b = none := fun h => g0.k.free h
    have dis2 : ∀ b, O b ∨ G0 b = none → b ≠ a ∧ b ≠ cl := fun b z => by
      rcases z with z | z
      · exact dis b z
      · exact ⟨fun e => fG.there (by rw [← e]; exact z), fun e => by obtain ⟨ys, h⟩ := fG.lst2; rw [← e, z] at h; cases h⟩
    obtain ⟨xs0, hxs0, lxs0, _⟩ := hxs0
    refine ⟨_, rfl, q, _, 1, _, rfl, rfl, SqL.of m0.hq, rfl, .inl ⟨rfl, _, SqL.of hxs0⟩, (by show 2 ≤ sizeLine; decide), fun c nc => ?_⟩
    have s1 : Same G0 (upd G0 c (.tup [.int 0, .int 1])) := Same.upd nc
    have hc : PrQ (upd G0 c (.tup [.int 0, .int 1])) c 0 := (show PairAt _ c 0 1 from upd_same)
    generalize upd G0 c (.tup [.int 0, .int 1]) = G1 at *
    have m1 := m0.same s1
    refine ⟨ps, xs0, _, rfl, rfl, s1 _ _ hxs0, by rw [lxs0]; exact small1000 (by omega), ?_⟩
    have g2 : Fr (K1 ps) G1 (upd G1 ps (.lst (xs0 ++ [.ref c]))) := Fr.updL rfl (s1 _ _ hxs0)
    have m2 := m1.setS g2 (fun _ z _ => z) ((m1.rs.mono sh.up).push (s1 _ _ hxs0) ⟨c, 0, rfl, hc, sh.sm _ sml0⟩)
    have f2 := (fG.same s1).fr g2 (fun e => (dis ps m.os).1 e.symm) (fun e => (dis ps m.os).2 e.symm)
    have g02 : Fr (Ta O a) G0 (upd G1 ps (.lst (xs0 ++ [.ref c]))) := (Same.fr s1).trans (g2.more fun b z => .inl (by rw [z]; exact m.os))
    generalize upd G1 ps (.lst (xs0 ++ [.ref c])) = G2 at *
    have keepS : ∀ {G : Hp}, Fr (Ta O a) G0 G → RowM G Dh n Sml := fun f => shr.fr f fun z => z.elim DhO Da
    have keepT : ∀ {G : Hp}, Fr (Ta O a) G0 G → TabR G OT p n w ra0 S := fun f => t0.fr f fun b z y => y.elim (fun o => dOT b o z) (disT b z).1
    refine ⟨_, rfl, q, _, 0, _, rfl, rfl, SqL.of m2.hq, rfl, k, rfl, by omega, by omega, for_range (n := k) (fun x σ G => ∃ o5 o7 o8 o9 o10 o11 o12 O2 X2, σ = [some (.ref q), some (.ref p), some (.int (w : Int)), some (.ref a), some (.int (n : Int)), o5, some (.ref Dh), o7, o8, o9, o10, o11, o12, none] ∧ (∀ b, O2 b → O b ∨ G0 b = none) ∧ Fr (Ta O a) G0 G ∧ FeedAt G a cl ∧ PtG G O2 q ps pt pe k sa X2 (n + 1) n (fun y => if y < x then n + 1 else n) S' S (fun y => if y < x then S' else S))
      ⟨none, none, none, none, none, none, none, O, X, rfl, fun b z => .inl z, g02, f2, m2.cong (fun x hx => by rw [if_neg (by omega)]) fun x hx => by rw [if_neg (by omega)]⟩ ?_ ?_⟩
    · rintro x σ G hx ⟨o5, o7, o8, o9, o10, o11, o12, O2, X2, rfl, sub, f3, fe3, m3⟩
      obtain ⟨ra, tx⟩ := m3.tt x hx
      rw [if_neg (by omega), if_neg (by omega)] at tx
      have XO2 : ∀ b, X2 x b → O2 b := fun b z => (m3.ox x hx b z).1
      have XO : ∀ b, X2 x b → O b ∨ G0 b = none := fun b z => sub b (XO2 b z)
      have disX : ∀ b, X2 x b → b ≠ a ∧ b ≠ cl := fun b z => dis2 b (XO b z)
      obtain ⟨v, hv, sv⟩ := (keepS f3).at (C := C)
      obtain ⟨U, hU, sU⟩ := tx.at (C := C)
      refine ⟨_, rfl, q, _, 2, _, rfl, rfl, SqL.of m3.hq, rfl, _, rfl, pt, _, _, _, rfl, rfl, SqL.of m3.ht, at_of (Int.zero_add _) (TabR.get hx), ?_⟩
      refine ⟨_, rfl, _, rfl, _, rfl, Emp, Dh, sa x, n, n, n, v, U, rfl, hv, hU, alc_emp, by omega, by omega, fun _ _ => rfl, sh.rowM n v sv, sh.tabS n n U sU, fun ah G3 s3 nah hah => ?_⟩
      have fe3' := fe3.same s3
      refine ⟨_, rfl, a, cl, rfl, fe3', fun ow qo G4 f4 b4 now how smo => ?_⟩
      have g4 : Fr (K1 a) G3 G4 := Fr.but b4 fe3' f4
      have aha : ah ≠ a := (fe3.ne_new nah).1
      have hah4 : RowM G4 ah n S1 := (RowM.of hah fun j hj => sh.dot n v _ hn sv fun i hi => sU i hi j hj).fr g4 fun z => aha z
      have pow : PairAt G4 ow qo.num (qo.den : Int) := how
      refine ⟨_, rfl, ow, _, 0, _, rfl, rfl, pow.t, rfl, _, _, rfl, rfl, _, rfl, ow, _, 1, _, rfl, rfl, pow.t, rfl, (by show 2 ≤ sizeLine; decide), fun lp nlp => ?_⟩
      have s5 : Same G4 (upd G4 lp (.tup [.int (0 - qo.num), .int (qo.den : Int)])) := Same.upd nlp
      have hl : PrQ (upd G4 lp (.tup [.int (0 - qo.num), .int (qo.den : Int)])) lp (-qo) := by
        show upd _ _ _ lp = _
        rw [upd_same, Rat.neg_num, Rat.neg_den, Int.zero_sub]
      generalize upd G4 lp (.tup [.int (0 - qo.num), .int (qo.den : Int)]) = G5 at *
      have g35 : Fr (K1 a) G G5 := ((Same.fr s3).trans g4).trans (Same.fr s5)
      have fe5 := f4.same s5
      have kX : ∀ b, K1 a b → ¬ X2 x b := fun b z y => (disX b y).1 z
      have tx5 := tx.fr g35 fun b y z => kX b z y
      have nahX : ¬ X2 x ah := fun z => m3.al _ (XO2 _ z) nah
      have hah5 := hah4.same s5
      refine ⟨_, rfl, n, rfl, by omega, by omega, for_range (n := n) (fun r σ G6 => ∃ o5 o12, σ = [some (.ref q), some (.ref p), some (.int (w : Int)), some (.ref a), some (.int (n : Int)), o5, some (.ref Dh), some (.int (0 + (x : Int))), some (.ref (sa x)), some (.ref ah), some (.ref ow), some (.ref lp), o12, none] ∧ Fr (X2 x) G5 G6 ∧ MidN G6 (sa x) n n (n + 1) ra S S' r)
        ⟨o5, o12, rfl, Fr.refl, tx5.hp, fun i z => absurd z (by omega), fun i _ z => tx5.rows i z⟩ ?_ ?_⟩
      · rintro r σ G6 hrr ⟨o5, o6, rfl, f6, md⟩
        have row := md.b r (Nat.le_refl _) hrr
        obtain ⟨ys, hys, lys, _⟩ := row.ex
        refine ⟨_, rfl, _, rfl, sa x, _, _, _, rfl, rfl, SqL.of md.hp, at_of (Int.zero_add _) (TabR.get hrr), ?_⟩
        refine ⟨_, rfl, .inl ⟨rfl, _, SqL.of hys⟩, (by show 2 ≤ sizeLine; decide), fun c nc => ?_⟩
        have s7 : Same G6 (upd G6 c (.tup [.int 0, .int 1])) := Same.upd nc
        have hc : PrQ (upd G6 c (.tup [.int 0, .int 1])) c 0 := (show PairAt _ c 0 1 from upd_same)
        generalize upd G6 c (.tup [.int 0, .int 1]) = G7 at *
        have md5 := md.fr (Same.fr (W := Emp) s7) id fun _ _ => id
        have hys5 := s7 _ _ hys
        refine ⟨ra r, ys, _, rfl, rfl, hys5, by rw [lys]; exact small1000 (by omega), ?_⟩
        have g6 : Fr (K1 (ra r)) G7 (upd G7 (ra r) (.lst (ys ++ [.ref c]))) := Fr.updL rfl hys5
        have row6 := ((md5.b r (Nat.le_refl _) hrr).mono sh.up).push hys5 ⟨c, 0, rfl, hc, sh.sm _ sml0⟩
        exact ⟨_, _, rfl, (f6.trans (Same.fr s7)).trans (g6.more fun b z => by rw [z]; exact tx.orr r hrr), md5.step tx hrr g6 row6⟩
      · rintro σ G6 ⟨o5, o12, rfl, f6, md⟩
        have hah6 := hah5.fr f6 nahX
        have f36 : Fr (Ta (X2 x) a) G G6 := (g35.more fun b z => .inr z).trans (f6.more fun b z => .inl z)
        have f06 : Fr (Ta O a) G0 G6 := Fr.dropS (W := fun b => Ta O a b ∨ X2 x b) ((f3.more fun _ z => .inl z).trans (f36.more fun b z => z.elim .inr fun e => .inl (.inr e))) fun b z => z.elim .inl fun z => (XO b z).imp .inl id
        have shr6 := keepS f06
        obtain ⟨u, hu, su⟩ := hah6.at (C := C)
        obtain ⟨v, hv, sv⟩ := shr6.at (C := C)
        obtain ⟨us, hus, lus, eus⟩ := At.lstR hu
        obtain ⟨vs, hvs, lvs, evs⟩ := At.lstR hv
        have hl6 : PrQ G6 lp (-qo) := f6.t _ _ hl
        have ho6 : PrQ G6 ow qo := f6.t _ _ (s5 _ _ how)
        refine ⟨_, rfl, .inl ⟨rfl, _, SqL.of md.hp⟩, _, rfl, n, rfl, by omega, by omega, fun D nD => ?_⟩
        refine lc_it (walk_range (lo := 0) (n := n)) (fun j G => Bld C Emp Emp G6 D (rng j fun j => prD (u j + -qo * v j)) G) (bld0 nD) (fun _ _ _ _ => trivial) ?_ ?_
        · rintro j y G7 G8 hj bd ⟨rfl, rfl⟩
          have s8 := bd.k.same
          obtain ⟨x1, hx2, dx⟩ := eus j hj
          obtain ⟨y1, hy2, dy⟩ := evs j hj
          have dx := bd.old nD (fun _ z => z.elim) dx
          have dy := bd.old nD (fun _ z => z.elim) dy
          have dl := bd.old nD (fun _ z => z.elim) (at_pair (C := C) (N := Emp) hl6 id)
          have al := bd.alc (N := Emp) alc_emp
          obtain ⟨p1, rfl, _⟩ := dx.pair
          obtain ⟨p2, rfl, _⟩ := dy.pair
          refine ⟨rfl, _, rfl, _, rfl, ah, _, _, _, rfl, rfl, SqL.of (s8 _ _ hus), at_of (Int.zero_add _) hx2, _, rfl, _, rfl, _, rfl, Dh, _, _, _, rfl, rfl, SqL.of (s8 _ _ hvs), at_of (Int.zero_add _) hy2, And1 Emp D, lp, p2, -qo, v j, rfl, dl, dy, al, smo.neg.hg, (sv j hj).hg, fun r1 G9 s9 hr1 => ?_⟩
          refine ⟨And1 Emp D, p1, r1, u j, -qo * v j, rfl, dx.same s9, hr1, al.keep (Same.keep (N := Emp) s9), sh.hg1 _ (su j hj), sh.hgm _ _ smo.neg (sv j hj), fun r2 G10 s10 hr2 => ?_⟩
          obtain ⟨acc, a1, a2, a3⟩ := bd.step nD (Same.keep (s9.trans s10)) (fun _ z => z.elim) id hr2
          refine ⟨acc, a1, by rw [a2, rng_len]; exact small1000 (by omega), ?_⟩
          rw [rng_succ]
          exact a3
        · rintro G7 bd
          have s7 := bd.k.same
          have rowD : RowM G7 D n S' := RowM.of (bd.done (fun z => z.elim)) fun j hj => sh.pl _ _ _ (su j hj) smo.neg (sv j hj)
          obtain ⟨acc, hacc, lacc, pacc⟩ := rowD.ex
          refine ⟨_, rfl, (by show 1 ≤ sizeLine; decide), fun l nl => ?_⟩
          have s8 : Same G7 (upd G7 l (.lst [.ref ow])) := Same.upd nl
          have hl8 : (upd G7 l (.lst [.ref ow])) l = some (.lst [.ref ow]) := upd_same
          generalize upd G7 l (.lst [.ref ow]) = G8 at *
          refine ⟨D, l, acc, [.ref ow], rfl, rfl, s8 _ _ hacc, hl8, by rw [lacc]; exact Nat.le_of_lt (small1000 (show n + 1 ≤ 1000 by omega)), fun D8 nD8 => ?_⟩
          have s9 : Same G8 (upd G8 D8 (.lst (acc ++ [.ref ow]))) := Same.upd nD8
          have s69 := s7.trans (s8.trans s9)
          have row8 : RowM (upd G8 D8 (.lst (acc ++ [.ref ow]))) D8 (n + 1) S' := ⟨_, upd_same, by rw [List.length_append, lacc]; rfl, fun y hy => by
            rcases List.mem_append.mp hy with hy | hy
            · exact ((pacc y hy).same s8).same s9
            · rw [List.mem_singleton.mp hy]
              exact ⟨ow, qo, rfl, s69 _ _ ho6, sh.sm _ smo⟩⟩
          generalize upd G8 D8 (.lst (acc ++ [.ref ow])) = G9 at *
          have nD6 : G6 D8 = none := s7.free (s8.free nD8)
          have nDG : G D8 = none := f36.k.free nD6
          have nD0 : G0 D8 = none := f3.k.free nDG
          have md8 := md.fr (Same.fr (W := Emp) s69) id fun _ _ => id
          have nX : ¬ X2 x D8 := fun z => m3.al _ (XO2 _ z) nDG
          have al8 : Alc (X2 x) G9 := (tx.al.keep f36.k).keep (Same.keep (N := Emp) s69)
          have t8 := tx.push md8.hp (fun i hi => md8.a i hi hi) al8 nX row8
          refine ⟨sa x, _, _, rfl, rfl, md8.hp, by rw [List.length_map, List.length_range]; exact small1000 (by omega), ?_⟩
          have g9 : Fr (Ta (X2 x) a) G (upd G9 (sa x) (.lst (((List.range n).map fun i => V.ref (ra i)) ++ [.ref D8]))) := (f36.trans (Same.fr s69)).trans (Fr.updL (.inl tx.op) md8.hp)
          have m9 := m3.setX hx g9 (fun b z y => z.elim id fun e => absurd e (dis2 b (sub b y)).1) (fun b z => z.imp id fun e => by rw [e]; exact nDG) t8
          refine ⟨_, _, _, _, _, _, _, _, _, rfl, fun b z => ?_, ?_, ?_, m9.cong (fun y hy => ?_) fun y hy => ?_⟩
          · rcases z with z | z
            · exact sub b z
            · rcases z with z | z
              · exact XO b z
              · exact .inr (by rw [z]; exact nD0)
          · exact Fr.dropS (W := fun b => Ta O a b ∨ X2 x b) ((f3.more fun _ z => .inl z).trans (g9.more fun b z => z.elim .inr fun e => .inl (.inr e))) fun b z => z.elim .inl fun z => (XO b z).imp .inl id
          · exact ((fe5.fr f6 (fun z => (disX _ z).1 rfl) (fun z => (disX _ z).2 rfl)).same s69).fr (Fr.updL (W := K1 (sa x)) rfl md8.hp) (fun e => (disX _ tx.op).1 e.symm) (fun e => (disX _ tx.op).2 e.symm)
          · by_cases e : y = x
            · rw [if_pos e, if_pos (by omega)]
            · rw [if_neg e]
              by_cases e2 : y < x
              · rw [if_pos e2, if_pos (by omega)]
              · rw [if_neg e2, if_neg (by omega)]
          · by_cases e : y = x
            · rw [if_pos e, if_pos (by omega)]
            · rw [if_neg e]
              by_cases e2 : y < x
              · rw [if_pos e2, if_pos (by omega)]
              · rw [if_neg e2, if_neg (by omega)]
    · rintro σ G ⟨o5, o7, o8, o9, o10, o11, o12, O2, X2, rfl, sub, f3, fe3, m3⟩
      obtain ⟨es, hes, les, _⟩ := m3.re.ex
      obtain ⟨v, hv, sv⟩ := (keepS f3).at (C := C)
      obtain ⟨u, hu, su⟩ := m3.re.at (C := C)
      have tG := keepT f3
      refine ⟨_, rfl, q, _, 3, _, rfl, rfl, SqL.of m3.hq, rfl, .inl ⟨rfl, _, SqL.of hes⟩, _, rfl, _, rfl, q, _, 3, _, rfl, rfl, SqL.of m3.hq, rfl, Emp, Dh, pe, n, n, v, u, rfl, hv, hu, alc_emp, Nat.le_refl _, by omega, dotOk_row (by omega) (sh.rowM n v sv) (sh.rowS n u su), fun c G4 s4 hc => ?_⟩
      refine ⟨pe, es, _, rfl, rfl, s4 _ _ hes, by rw [les]; exact small1000 (by omega), ?_⟩
      have m4 := m3.same s4
      have g5 : Fr (K1 pe) G4 (upd G4 pe (.lst (es ++ [.ref c]))) := Fr.updL rfl (s4 _ _ hes)
      have m5 := m4.setE g5 (fun _ z _ => z) ((m4.re.mono sh.up).push (s4 _ _ hes) ⟨c, _, rfl, at_pr hc, sh.up1 _ (sh.dot n v u hn sv su)⟩)
      have pO := sub _ m3.oe
      have fe5 := (fe3.same s4).fr g5 (fun e => (dis2 _ pO).1 e.symm) (fun e => (dis2 _ pO).2 e.symm)
      have f5 : Fr (Ta O a) G0 (upd G4 pe (.lst (es ++ [.ref c]))) := (f3.trans (Same.fr s4)).trans (g5.more fun b z => .inl (by rw [z]; exact m.oe))
      generalize upd G4 pe (.lst (es ++ [.ref c])) = G5 at *
      obtain ⟨v, hv, sv⟩ := (keepS f5).at (C := C)
      have t5 := keepT f5
      obtain ⟨U, hU, sU⟩ := t5.at (C := C)
      refine ⟨_, rfl, .inl ⟨rfl, _, SqL.of t5.hp⟩, _, rfl, _, rfl, _, rfl, Emp, Dh, p, n, w, w, v, U, rfl, hv, hU, alc_emp, by omega, hw, fun _ _ => rfl, sh.rowM n v sv, sh.tabS n w U sU, fun D G6 s6 nD hD => ?_⟩
      have rowD : RowM G6 D w S' := (RowM.of hD fun j hj => sh.dot n v _ hn sv fun i hi => sU i hi j hj).mono sh.up1
      refine ⟨p, _, _, rfl, rfl, s6 _ _ t5.hp, by rw [List.length_map, List.length_range]; exact small1000 (by omega), ?_⟩
      have t6 := t5.same s6
      have nT : ¬ OT D := fun z => t5.al _ z nD
      have t7 := t6.push t6.hp (fun i hi => (t6.rows i hi).mono sh.up) t6.al nT rowD
      have g7 : Fr (K1 p) G6 (upd G6 p (.lst (((List.range n).map fun i => V.ref (ra0 i)) ++ [.ref D]))) := Fr.updL rfl t6.hp
      have disO2 : ∀ b, O2 b → ¬ OT b := fun b z y => by
        rcases sub b z with h | h
        · exact dOT b h y
        · exact t0.al b y h
      have m6 := (m5.same s6).fr g7 fun b z e => disO2 b z (by rw [show b = p from e]; exact tt.op)
      have nD0 : G0 D = none := f5.k.free nD
      refine kk _ O2 (And1 OT D) _ (fun b z => (sub b z).imp id hfr0) (fun b z => z.imp id fun e => by rw [e]; exact hfr0 nD0) (fun b z y => ?_) ?_ ((fe5.same s6).fr g7 (fun e => (disT p tt.op).1 e.symm) (fun e => (disT p tt.op).2 e.symm)) ⟨ps, pt, pe, sa, X2, m6.cong (fun x hx => by rw [if_pos hx]) fun x hx => by rw [if_pos hx]⟩ t7
      · rcases y with y | y
        · exact disO2 b z y
        · exact m5.al b z (by rw [y]; exact nD)
      · exact (g0.more fun b z => .inr z).trans (((f5.more fun b z => z.imp .inl id).trans (Same.fr s6)).trans (g7.more fun b z => .inl (.inr (by rw [z]; exact tt.op))))
end
end RX

set_option Elab.async false
set_option maxRecDepth 100000
namespace RX
open PySem L2 LX VA VM VN EB
open RQ (Hg Bt)
abbrev sStepL : Stmt := topS 44
theorem scStp : FnScope ["tape", "size", "shape", "letter", "rows", "at", "row", "place", "number"] ["tape", "size", "shape", "letter"] (defScope sStepL) := ⟨rfl, rfl, rfl, by decide +kernel, rfl, by decide +kernel, by decide +kernel⟩

/-- a list that is built, its items told by Φ -/
structure Ls (W : Addr → Prop) (H0 : Hp) (D : Addr) (k : Nat) (Φ : Hp → V → Prop) (G : Hp) : Prop where
  xs : ∃ acc, G D = some (.lst acc) ∧ acc.length = k ∧ ∀ x ∈ acc, Φ G x
  f : Fr W H0 G
section
variable {W : Addr → Prop} {H0 G G3 : Hp} {D : Addr} {k : Nat} {Φ : Hp → V → Prop}
theorem ls0 (n : H0 D = none) : Ls W H0 D 0 Φ (upd H0 D (.lst [])) := ⟨⟨[], upd_same, rfl, fun _ h => absurd h List.not_mem_nil⟩, Same.fr (Same.upd n)⟩
theorem Ls.step {x : V} (b : Ls W H0 D k Φ G) (n : H0 D = none) (w : ¬ W D) (st : ∀ G G' y, Φ G y → Fr (And1 W D) G G' → Φ G' y) (f : Fr W G G3) (h : Φ G3 x) : ∃ acc, G3 D = some (.lst acc) ∧ acc.length = k ∧ Ls W H0 D (k + 1) Φ (upd G3 D (.lst (acc ++ [x]))) := by
  obtain ⟨acc, h1, h2, h3⟩ := b.xs
  have hD := f.get h1 w
  have fu : Fr (K1 D) G3 (upd G3 D (.lst (acc ++ [x]))) := Fr.updL rfl hD
  have fu2 : Fr (And1 W D) G3 (upd G3 D (.lst (acc ++ [x]))) := fu.more fun _ z => .inr z
  refine ⟨acc, hD, h2, ⟨_, upd_same, by rw [List.length_append, h2]; rfl, fun y hy => ?_⟩, ?_⟩
  · rcases List.mem_append.mp hy with hy | hy
    · exact st _ _ _ (st _ _ _ (h3 y hy) (f.more fun _ z => .inl z)) fu2
    · rw [List.mem_singleton.mp hy]
      exact st _ _ _ h fu2
  · exact Fr.dropS (W := fun b => W b ∨ b = D) (((b.f.trans f).more fun _ z => .inl z).trans (fu.more fun _ z => .inr z)) fun b z => z.imp id fun e => by rw [e]; exact n
end
def IntV (B : Nat) (x : V) : Prop := ∃ z : Int, x = .int z ∧ Bt B z
/-- n ints stand at a -/
def IntM (B : Nat) (H : Hp) (a : Addr) (n : Nat) : Prop := ∃ xs, H a = some (.lst xs) ∧ xs.length = n ∧ ∀ x ∈ xs, IntV B x
theorem IntM.fr {B : Nat} {W : Addr → Prop} {H H' : Hp} {a : Addr} {n : Nat} (h : IntM B H a n) (f : Fr W H H') (w : ¬ W a) : IntM B H' a n := let ⟨xs, h, l, e⟩ := h; ⟨xs, f.get h w, l, e⟩
theorem IntM.there {B : Nat} {H : Hp} {a : Addr} {n : Nat} (h : IntM B H a n) : H a ≠ none := by
  obtain ⟨xs, h, _⟩ := h
  rw [h]; intro z; cases z
theorem IntM.get {B : Nat} {H : Hp} {a : Addr} {n i : Nat} (h : IntM B H a n) (hi : i < n) : ∃ (xs : List V) (z : Int), H a = some (.lst xs) ∧ xs.length = n ∧ xs[i]? = some (.int z) ∧ Bt B z := by
  obtain ⟨xs, h, l, e⟩ := h
  have hl : i < xs.length := by omega
  obtain ⟨z, e1, b⟩ := e _ (List.getElem_mem hl)
  exact ⟨xs, z, h, l, by rw [List.getElem?_eq_getElem hl, e1], b⟩
theorem IntM.set {B : Nat} {H : Hp} {a : Addr} {n i : Nat} {xs : List V} {z : Int} (h : IntM B H a n) (hx : H a = some (.lst xs)) (b : Bt B z) : IntM B (upd H a (.lst (xs.set i (.int z)))) a n := by
  obtain ⟨ys, h, l, e⟩ := h
  rw [hx] at h
  obtain rfl : xs = ys := by injection h with h; injection h
  refine ⟨_, upd_same, by rw [List.length_set, l], fun x hx => ?_⟩
  rcases mem_set hx with rfl | hx
  · exact ⟨z, rfl, b⟩
  · exact e x hx
theorem bt80 {x : Int} (h : x.natAbs < 1000) : Bt 80 x := show x.natAbs < 2 ^ 80 by omega
theorem bit80 (b : Bool) : Bt 80 (if b = true then 1 else 0 : Int) := by cases b <;> exact bt80 (by decide)
/-- what is new -/
def New (H G : Hp) : Addr → Prop := fun b => H b = none ∧ G b ≠ none
theorem New.up {H H' G : Hp} {b : Addr} {W : Addr → Prop} (f : Fr W H H') (h : New H' G b) : New H G b := ⟨f.k.free h.1, h.2⟩
theorem New.up2 {H G G' : Hp} {b : Addr} {W : Addr → Prop} (h : New H G b) (f : Fr W G G') : New H G' b := ⟨h.1, f.k.a _ h.2⟩
/-- a step: n rows of n ints -/
def StpM (B : Nat) (H : Hp) (P : Addr → Prop) (n : Nat) (x : V) : Prop := ∃ a ys, x = .ref a ∧ P a ∧ H a = some (.lst ys) ∧ ys.length = n ∧ ∀ y ∈ ys, ∃ b, y = .ref b ∧ P b ∧ IntM B H b n
theorem StpM.fr {B : Nat} {W P P' : Addr → Prop} {H H' : Hp} {n : Nat} {x : V} (h : StpM B H P n x) (f : Fr W H H') (w : ∀ b, P b → ¬ W b) (p : ∀ b, P b → P' b) : StpM B H' P' n x := by
  obtain ⟨a, ys, e, pa, ha, l, r⟩ := h
  refine ⟨a, ys, e, p _ pa, f.get ha (w _ pa), l, fun y hy => ?_⟩
  obtain ⟨b, e, pb, i⟩ := r y hy
  exact ⟨b, e, p _ pb, i.fr f (w _ pb)⟩
def spStp : Sp := fun vs H Q _ => ∃ (a cl : Addr) (n : Nat) (x sp : Int), vs = [.ref a, .int (n : Int), .int sp, .int (x : Int)] ∧ FeedAt H a cl ∧ n ≤ 900 ∧ ∀ (r : Addr) (H' : Hp), Fr (K1 a) H H' → FeedAt H' a cl → StpM 80 H' (New H H') n (.ref r) → Q (.ref r) H'
def BotV (x : V) : Prop := ∃ b : Int, x = .int b ∧ b ≠ 0 ∧ Bt 70 b
def BotM (H : Hp) (a : Addr) (k : Nat) : Prop := ∃ xs, H a = some (.lst xs) ∧ xs.length = k ∧ ∀ x ∈ xs, BotV x
def spBo : Sp := fun vs H Q _ => ∃ (a cl : Addr) (k n : Nat), vs = [.ref a, .int (k : Int), .int (n : Int)] ∧ FeedAt H a cl ∧ k ≤ 4 ∧ n ≤ 900 ∧ ∀ (r : Addr) (H' : Hp), Fr (K1 a) H H' → FeedAt H' a cl → New H H' r → BotM H' r (k + 2) → Q (.ref r) H'
section
variable {P : Program} {w : World} {K : PySem.W.Frag} {mg : Str → Option Value} {base : Heap}
theorem ok_stp {f fE : Addr} {fd dE : FuncData} (F : Fun K "_law_step" "_law_step" sStepL f fd) (T : TxtL mg) (cEn : CalN P w K mg base "_law_entry" 2 ["tape"] spEn fE dE) : FnOk P w K mg base CX0 3 f fd ["tape", "size", "shape", "letter"] spStp := by
  refine F.ok scStp (fun vs H Q E h => ?_) (fun cdv A outer s H vs Q E hr h => ?_)
  · obtain ⟨a, cl, n, x, sp, rfl, _⟩ := h
    rfl
  · obtain ⟨a, cl, n, x, sp, rfl, hF, hn, kk⟩ := h
    have hr2 : Room 2 _ := hr
    refine ⟨_, pss_cons (ps_set (i := 4) scStp.nd rfl (.inl rfl) (pe_lst pa_nil))
      (pss_cons (ps_for PassesOwn.never rfl (pi_range1 (by rfl) T.range (pa_cons (pv 1) pa_nil)) (pg_name (i := 5) scStp.nd rfl (.inl rfl))
        (pss_cons (ps_set (i := 6) scStp.nd rfl (.inl rfl) (pe_lst pa_nil))
        (pss_cons (ps_for PassesOwn.never rfl (pi_range1 (by rfl) T.range (pa_cons (pv 1) pa_nil)) (pg_name (i := 7) scStp.nd rfl (.inl rfl))
          (pss_cons (ps_set (i := 8) scStp.nd rfl (.inl rfl) (pe_call cEn.G hr2 rfl cEn.m cEn.kp cEn.b .nil pass0 (pa_cons (pv 0) pa_nil)))
          (C8.pss_cut (ps_if (PW.pt (pw_or (PW.pt (pw_and (pt_cmpR op_eq (pv 2) pe_int (nomark _)) (pw_and1 (pt_cmpR op_le (pv 7) (pv 5) (nomark _))))) (pw_or (PW.pt (pw_and (pt_cmpR op_eq (pv 2) pe_int (nomark _)) (pw_and1 (pt_cmpR op_lt (pv 7) (pv 5) (nomark _))))) (pw_or1 (PW.pt (pw_and (pt_cmpR op_eq (pv 2) pe_int (nomark _)) (pw_and1 (pt_cmpR op_ne (pe_op op_fdiv (pv 7) pe_int) (pe_op op_fdiv (pv 5) pe_int) (nomark _)))))))))
            (pss_one (ps_set (i := 8) scStp.nd rfl (.inl rfl) pe_int))
            pss_nil)
          (C8.pss_cut (ps_if (pt_cmpR op_eq (pv 2) pe_int (nomark _))
            (pss_one (ps_set (i := 8) scStp.nd rfl (.inl rfl) (pe_callTy call_int1 (by rfl) T.int (by decide +kernel) (pa_cons (pe_cmpR op_eq (pv 7) (pe_op op_mod (pe_callTy call_int1 (by rfl) T.int (by decide +kernel) (pa_cons (pe_op op_sub (pe_op op_add (pv 5) pe_int) (pv 3)) pa_nil)) (pv 1)) (nomark _)) pa_nil))))
            pss_nil)
          (C8.pss_cut (ps_if (PW.pt (pw_or (PW.pt (pw_and (pt_cmpR op_eq (pv 2) pe_int (nomark _)) (pw_and1 (pt_cmpR op_le (pv 7) (pv 5) (nomark _))))) (pw_or1 (PW.pt (pw_and (pt_cmpR op_eq (pv 2) pe_int (nomark _)) (pw_and1 (pt_cmpR op_lt (pe_op op_add (pv 5) pe_int) (pv 1) (nomark _))))))))
            (pss_one (ps_set (i := 8) scStp.nd rfl (.inl rfl) (pe_callTy call_int1 (by rfl) T.int (by decide +kernel) (pa_cons (pe_cmpR op_eq (pv 7) (pe_op op_add (pv 5) (pe_callTy call_int1 (by rfl) T.int (by decide +kernel) (pa_cons (pe_cmpR op_eq (pv 2) pe_int (nomark _)) pa_nil))) (nomark _)) pa_nil))))
            pss_nil)
          (pss_one (ps_expr (pe_bm PySem.F.plainAttrs_list PySem.F.slot_list_append PySem.F.type_list_append mt_append (pv 6) (pa_cons (pv 8) pa_nil)))))))))
        (pss_one (ps_expr (pe_bm PySem.F.plainAttrs_list PySem.F.slot_list_append PySem.F.type_list_append mt_append (pv 4) (pa_cons (pv 6) pa_nil)))))))
      (pss_one (ps_ret (pv 4)))), ?_⟩
    refine ⟨(by show 0 ≤ sizeLine; decide), fun D nD => ?_⟩
    have Da : D ≠ a := (hF.ne_new nD).1
    have Dc : D ≠ cl := (hF.ne_new nD).2
    have st : ∀ (G G' : Hp) (y : V), (∃ b, y = .ref b ∧ b ≠ D ∧ b ≠ a ∧ H b = none ∧ IntM 80 G b n) → Fr (And1 (K1 a) D) G G' → ∃ b, y = .ref b ∧ b ≠ D ∧ b ≠ a ∧ H b = none ∧ IntM 80 G' b n := fun G G' y h f => by
      obtain ⟨b, e, n1, n2, nb, i⟩ := h
      exact ⟨b, e, n1, n2, nb, i.fr f fun z => z.elim n2 n1⟩
    refine ⟨_, rfl, n, rfl, by omega, by omega, for_range (n := n) (fun i σ G => ∃ o5 o6 o7 o8, σ = [some (.ref a), some (.int (n : Int)), some (.int sp), some (.int (x : Int)), some (.ref D), o5, o6, o7, o8] ∧ FeedAt G a cl ∧ Ls (K1 a) H D i (fun G y => ∃ b, y = .ref b ∧ b ≠ D ∧ b ≠ a ∧ H b = none ∧ IntM 80 G b n) G)
      ⟨none, none, none, none, rfl, hF.other Da Dc, ls0 nD⟩ ?_ ?_⟩
    · rintro i σ G hi ⟨o5, o6, o7, o8, rfl, fe, ls⟩
      refine ⟨(by show 0 ≤ sizeLine; decide), fun L nL => ?_⟩
      have La : L ≠ a := (fe.ne_new nL).1
      have Lc : L ≠ cl := (fe.ne_new nL).2
      have LD : L ≠ D := fun z => by obtain ⟨acc, h, _⟩ := ls.xs; rw [← z, nL] at h; cases h
      refine ⟨_, rfl, n, rfl, by omega, by omega, for_range (n := n) (fun j σ G2 => ∃ o7 o8, σ = [some (.ref a), some (.int (n : Int)), some (.int sp), some (.int (x : Int)), some (.ref D), some (.int (0 + (i : Int))), some (.ref L), o7, o8] ∧ FeedAt G2 a cl ∧ Ls (K1 a) G L j (fun _ y => IntV 80 y) G2)
        ⟨o7, o8, rfl, fe.other La Lc, ls0 nL⟩ ?_ ?_⟩
      · rintro j σ G2 hj ⟨o7, o8, rfl, fe2, ls2⟩
        refine ⟨_, rfl, a, cl, rfl, fe2, fun z G3 z0 z1 f3 b3 => ?_⟩
        have g3 : Fr (K1 a) G2 G3 := Fr.but b3 fe2 f3
        have bz : Bt 80 z := bt80 (by omega)
        refine ⟨fun σ' H' => ∃ z : Int, σ' = [some (.ref a), some (.int (n : Int)), some (.int sp), some (.int (x : Int)), some (.ref D), some (.int (0 + (i : Int))), some (.ref L), some (.int (0 + (j : Int))), some (.int z)] ∧ H' = G3 ∧ Bt 80 z, ?_, ?_⟩
        · repeat' first
            | exact ⟨z, rfl, rfl, bz⟩
            | exact ⟨0, rfl, rfl, bt80 (by decide)⟩
            | refine ⟨_, rfl, rfl, _, rfl, ite2 (fun _ => ?_) (fun _ => ?_)⟩
            | refine ⟨_, rfl, _, rfl, _, _, rfl, rfl, _, rfl, ite2 (fun _ => ?_) (fun _ => ?_)⟩
            | refine ⟨_, rfl, _, _, rfl, rfl, ⟨by decide, by decide⟩, _, rfl, _, _, rfl, rfl, ⟨by decide, by decide⟩, rfl, _, rfl, ite2 (fun _ => ?_) (fun _ => ?_)⟩
        rintro σ3 G4 ⟨z, rfl, rfl, bz⟩
        refine ⟨fun σ' H' => ∃ z : Int, σ' = [some (.ref a), some (.int (n : Int)), some (.int sp), some (.int (x : Int)), some (.ref D), some (.int (0 + (i : Int))), some (.ref L), some (.int (0 + (j : Int))), some (.int z)] ∧ H' = G4 ∧ Bt 80 z, ?_, ?_⟩
        · refine ⟨_, rfl, rfl, _, rfl, ite2 (fun _ => ?_) (fun _ => ⟨z, rfl, rfl, bz⟩)⟩
          refine ⟨_, rfl, _, rfl, _, _, rfl, rfl, _, rfl, _, _, rfl, rfl, .inl ⟨_, rfl, _, rfl, _, _, rfl, rfl, by omega, rfl, .inr ⟨_, rfl, _, rfl, rfl, bit80 _⟩⟩⟩
        rintro σ3 G5 ⟨z, rfl, rfl, bz⟩
        refine ⟨fun σ' H' => ∃ z : Int, σ' = [some (.ref a), some (.int (n : Int)), some (.int sp), some (.int (x : Int)), some (.ref D), some (.int (0 + (i : Int))), some (.ref L), some (.int (0 + (j : Int))), some (.int z)] ∧ H' = G5 ∧ Bt 80 z, ?_, ?_⟩
        · repeat' first
            | exact ⟨z, rfl, rfl, bz⟩
            | refine ⟨_, rfl, rfl, _, rfl, ite2 (fun _ => ?_) (fun _ => ?_)⟩
            | refine ⟨_, rfl, _, rfl, _, _, rfl, rfl, _, rfl, ite2 (fun _ => ?_) (fun _ => ?_)⟩
            | refine ⟨_, rfl, _, _, rfl, rfl, _, rfl, _, _, rfl, rfl, _, rfl, ite2 (fun _ => ?_) (fun _ => ?_)⟩
            | exact ⟨_, rfl, _, rfl, _, rfl, rfl, .inr ⟨_, rfl, _, _, rfl, rfl, rfl, .inr ⟨_, rfl, _, rfl, rfl, bit80 _⟩⟩⟩
        rintro σ3 G6 ⟨z, rfl, rfl, bz⟩
        have ff : Fr (K1 a) G2 G6 := g3
        obtain ⟨acc, a1, a2, a3⟩ := ls2.step (x := .int z) nL (fun e => La e) (fun _ _ _ h _ => h) ff ⟨z, rfl, bz⟩
        refine ⟨_, rfl, .inl ⟨rfl, _, SqL.of a1⟩, _, rfl, L, acc, _, rfl, rfl, a1, by rw [a2]; exact small1000 (by omega), ?_⟩
        exact ⟨_, _, rfl, f3.other La Lc, a3⟩
      · rintro σ G2 ⟨o7, o8, rfl, fe2, ls2⟩
        have iL : IntM 80 G2 L n := ls2.xs
        have nLH : H L = none := ls.f.k.free nL
        obtain ⟨acc, a1, a2, a3⟩ := ls.step (x := .ref L) nD (fun e => Da e) st ls2.f ⟨L, rfl, LD, La, nLH, iL⟩
        refine ⟨_, rfl, .inl ⟨rfl, _, SqL.of a1⟩, _, rfl, D, acc, _, rfl, rfl, a1, by rw [a2]; exact small1000 (by omega), ?_⟩
        exact ⟨_, _, _, _, rfl, fe2.other Da Dc, a3⟩
    · rintro σ G ⟨o5, o6, o7, o8, rfl, fe, ls⟩
      obtain ⟨acc, hD, l, e⟩ := ls.xs
      refine ⟨_, rfl, kk D G ls.f fe ⟨D, acc, rfl, ⟨nD, by rw [hD]; intro z; cases z⟩, hD, l, fun y hy => ?_⟩⟩
      obtain ⟨b, rfl, _, _, nb, i⟩ := e y hy
      exact ⟨b, rfl, ⟨nb, i.there⟩, i⟩
end
end RX

set_option Elab.async false
set_option maxRecDepth 100000
namespace RX
open PySem L2 LX VA VM VN EB
open RQ (Hg Bt)
abbrev sBottoms : Stmt := topS 45
theorem scBo : FnScope ["tape", "letters", "size", "kind", "bottoms", "place"] ["tape", "letters", "size"] (defScope sBottoms) := ⟨rfl, rfl, rfl, by decide +kernel, rfl, by decide +kernel, by decide +kernel⟩
theorem bot1 : BotV (.int 1) := ⟨1, rfl, by decide, show (1 : Int).natAbs < 2 ^ 70 by decide⟩
theorem botS {v : Int} (h : v ≠ 0) (k : v.natAbs < 1000) : BotV (.int v) := ⟨v, rfl, h, show v.natAbs < 2 ^ 70 by omega⟩
theorem atb {y : Int} (h0 : 0 ≤ y) (h1 : y < 5) : ∃ v : V, atI [V.int 1, V.int 2, V.int 3, V.int 5, V.int 1] y = some v ∧ BotV v := by
  have : y = 0 ∨ y = 1 ∨ y = 2 ∨ y = 3 ∨ y = 4 := by omega
  rcases this with rfl | rfl | rfl | rfl | rfl <;> exact ⟨_, rfl, botS (by decide) (by decide)⟩
theorem atg {y g : Int} (h0 : 0 ≤ y) (h1 : y < 2) (g0 : BotV (.int g)) : ∃ v : V, atI [V.int 1, V.int g] y = some v ∧ BotV v := by
  have : y = 0 ∨ y = 1 := by omega
  rcases this with rfl | rfl
  · exact ⟨_, rfl, bot1⟩
  · exact ⟨_, rfl, g0⟩
section
variable {P : Program} {w : World} {K : PySem.W.Frag} {mg : Str → Option Value} {base : Heap}
theorem ok_bo {f fN fG : Addr} {fd dN dG : FuncData} (F : Fun K "_law_bottoms" "_law_bottoms" sBottoms f fd) (T : TxtL mg) (cNx : CalN P w K mg base "_law_next" 1 ["tape", "limit"] spDraw fN dN) (cGr : CalN P w K mg base "_law_great" 2 ["tape"] spGrt fG dG) : FnOk P w K mg base CX0 3 f fd ["tape", "letters", "size"] spBo := by
  refine F.ok scBo (fun vs H Q E h => ?_) (fun cdv A outer s H vs Q E hr h => ?_)
  · obtain ⟨a, cl, k, n, rfl, _⟩ := h
    rfl
  · obtain ⟨a, cl, k, n, rfl, hF, hk, hn, kk⟩ := h
    have hr2 : Room 2 _ := hr
    have hr1 : Room 1 _ := hr.mono (by decide)
    refine ⟨_, pss_cons (ps_set (i := 3) scBo.nd rfl (.inl rfl) (pe_call cNx.G hr1 rfl cNx.m cNx.kp cNx.b .nil pass0 (pa_cons (pv 0) (pa_cons pe_int pa_nil))))
      (pss_cons (ps_setLc (i := 4) (own := [("place", 5)]) (g := gName 5) (tt := tYes) rfl scBo.nd rfl rfl (sw_true rfl rfl rfl (by decide +kernel)) (pi_range1 (by rfl) T.range (pa_cons (pe_op op_add (pv 1) pe_int) pa_nil)) (blkOk_by (N := ["tape", "letters", "size", "kind", "bottoms", "place"]) (sc := (defScope sBottoms)) (by decide +kernel)) (fun _ _ _ _ _ => (pg_name (i := 5) scBo.nd rfl (.inl rfl))) (fun _ _ _ _ _ => pts_nil) (fun _ _ _ _ _ => pe_int))
      (C8.pss_cut (ps_if (pt_cmpR op_eq (pv 3) pe_int (nomark _))
        (pss_one (ps_setLc (i := 4) (own := [("place", 5)]) (g := gName 5) (tt := tYes) rfl scBo.nd rfl rfl (sw_true rfl rfl rfl (by decide +kernel)) (pi_range1 (by rfl) T.range (pa_cons (pe_op op_add (pv 1) pe_int) pa_nil)) (blkOk_by (N := ["tape", "letters", "size", "kind", "bottoms", "place"]) (sc := (defScope sBottoms)) (by decide +kernel)) (fun _ _ _ _ _ => (pg_name (i := 5) scBo.nd rfl (.inl rfl))) (fun _ _ _ _ _ => pts_nil) (fun _ _ _ _ _ => (pe_ix (show IxR _ (rIxL K) from ix_list) (pe_lst (pa_cons pe_int (pa_cons pe_int (pa_cons pe_int (pa_cons pe_int (pa_cons pe_int pa_nil)))))) (pe_call cNx.G hr1 rfl cNx.m cNx.kp cNx.b .nil pass0 (pa_cons (pv 0) (pa_cons pe_int pa_nil))) (fun _ _ => rfl)))))
        pss_nil)
      (C8.pss_cut (ps_if (PW.pt (pw_and (pt_cmpR op_eq (pv 3) pe_int (nomark _)) (pw_and (pt_cmpR op_lt (pv 1) pe_int (nomark _)) (pw_and1 (pt_cmpR op_lt (pv 2) pe_int (nomark _))))))
        (pss_one (ps_setLc (i := 4) (own := [("place", 5)]) (g := gName 5) (tt := tYes) rfl scBo.nd rfl rfl (sw_true rfl rfl rfl (by decide +kernel)) (pi_range1 (by rfl) T.range (pa_cons (pe_op op_add (pv 1) pe_int) pa_nil)) (blkOk_by (N := ["tape", "letters", "size", "kind", "bottoms", "place"]) (sc := (defScope sBottoms)) (by decide +kernel)) (fun _ _ _ _ _ => (pg_name (i := 5) scBo.nd rfl (.inl rfl))) (fun _ _ _ _ _ => pts_nil) (fun _ _ _ _ _ => (pe_ix (show IxR _ (rIxL K) from ix_list) (pe_lst (pa_cons pe_int (pa_cons (pe_call cGr.G hr2 rfl cGr.m cGr.kp cGr.b .nil pass0 (pa_cons (pv 0) pa_nil)) pa_nil))) (pe_call cNx.G hr1 rfl cNx.m cNx.kp cNx.b .nil pass0 (pa_cons (pv 0) (pa_cons pe_int pa_nil))) (fun _ _ => rfl)))))
        pss_nil)
      (pss_one (ps_ret (pv 4)))))), ?_⟩
    refine ⟨_, rfl, a, cl, 5, rfl, hF, by decide, by decide, fun kd H1 k0 k1 f1 b1 => ?_⟩
    have g1 : Fr (K1 a) H H1 := Fr.but b1 hF f1
    refine ⟨_, rfl, _, _, rfl, rfl, k + 2, rfl, by omega, by omega, fun D nD => ?_⟩
    refine lc_it (walk_range (lo := 0) (n := k + 2)) (fun i G => Ls (K1 a) H1 D i (fun _ y => BotV y) G ∧ FeedAt G a cl) ⟨ls0 nD, f1.other (f1.ne_new nD).1 (f1.ne_new nD).2⟩ (fun _ _ _ _ => trivial) ?_ ?_
    · rintro i y G5 G6 hi ⟨b, fb⟩ ⟨rfl, rfl⟩
      refine ⟨rfl, ?_⟩
      obtain ⟨acc, a1, a2, a3⟩ := b.step (x := .int 1) nD (fun z => (f1.ne_new nD).1 z) (fun _ _ _ h _ => h) Fr.refl bot1
      exact ⟨acc, a1, by rw [a2]; exact small1000 (by omega), a3, fb.other (f1.ne_new nD).1 (f1.ne_new nD).2⟩
    rintro G2 ⟨b2, f2⟩
    have new : ∀ {H1 G : Hp} {D : Addr}, Fr (K1 a) H H1 → H1 D = none → Ls (K1 a) H1 D (k + 2) (fun _ y => BotV y) G → New H G D ∧ BotM G D (k + 2) := fun g n b => by
      obtain ⟨xs, h, l, e⟩ := b.xs
      exact ⟨⟨g.k.free n, by rw [h]; intro z; cases z⟩, xs, h, l, e⟩
    obtain ⟨nw2, bm2⟩ := new g1 nD b2
    refine ⟨fun σ' H' => ∃ D, σ' = [some (.ref a), some (.int (k : Int)), some (.int (n : Int)), some (.int kd), some (.ref D), none] ∧ FeedAt H' a cl ∧ Fr (K1 a) H H' ∧ New H H' D ∧ BotM H' D (k + 2), ?_, ?_⟩
    · refine ⟨_, rfl, rfl, _, rfl, ite2 (fun _ => ?_) (fun _ => ⟨D, rfl, f2, g1.trans b2.f, nw2, bm2⟩)⟩
      refine ⟨_, rfl, _, _, rfl, rfl, k + 2, rfl, by omega, by omega, fun D3 nD3 => ?_⟩
      have g12 := g1.trans b2.f
      refine lc_it (walk_range (lo := 0) (n := k + 2)) (fun i G => Ls (K1 a) G2 D3 i (fun _ y => BotV y) G ∧ FeedAt G a cl) ⟨ls0 nD3, f2.other (f2.ne_new nD3).1 (f2.ne_new nD3).2⟩ (fun _ _ _ _ => trivial) ?_ ?_
      · rintro i y G5 G6 hi ⟨b, fb⟩ ⟨rfl, rfl⟩
        refine ⟨rfl, (by show 5 ≤ sizeLine; decide), fun l nl => ?_⟩
        have s6 : Same G6 (upd G6 l (.lst [.int 1, .int 2, .int 3, .int 5, .int 1])) := Same.upd nl
        have hl : (upd G6 l (.lst [.int 1, .int 2, .int 3, .int 5, .int 1])) l = some (.lst [.int 1, .int 2, .int 3, .int 5, .int 1]) := upd_same
        generalize upd G6 l (.lst [.int 1, .int 2, .int 3, .int 5, .int 1]) = G7 at *
        refine ⟨_, rfl, a, cl, 5, rfl, fb.same s6, by decide, by decide, fun y G8 y0 y1 f8 b8 => ?_⟩
        have g8 := Fr.but b8 (fb.same s6) f8
        obtain ⟨v, hv, bv⟩ := atb y0 y1
        refine ⟨l, _, _, _, rfl, rfl, SqL.of (g8.get hl fun z => (fb.ne_new nl).1 z), hv, ?_⟩
        obtain ⟨acc, a1, a2, a3⟩ := b.step (x := v) nD3 (fun z => (f2.ne_new nD3).1 z) (fun _ _ _ h _ => h) ((Same.fr s6).trans g8) bv
        exact ⟨acc, a1, by rw [a2]; exact small1000 (by omega), a3, f8.other (f2.ne_new nD3).1 (f2.ne_new nD3).2⟩
      · rintro G3 ⟨b3, f3⟩
        obtain ⟨nw3, bm3⟩ := new g12 nD3 b3
        exact ⟨D3, rfl, f3, g12.trans b3.f, nw3, bm3⟩
    rintro σ' G3 ⟨D3, rfl, f3, g3, nw3, bm3⟩
    refine ⟨fun σ' H' => ∃ D, σ' = [some (.ref a), some (.int (k : Int)), some (.int (n : Int)), some (.int kd), some (.ref D), none] ∧ FeedAt H' a cl ∧ Fr (K1 a) H H' ∧ New H H' D ∧ BotM H' D (k + 2), ?_, ?_⟩
    · refine ⟨_, rfl, rfl, _, rfl, ite2 (fun _ => ?_) (fun _ => ⟨D3, rfl, f3, g3, nw3, bm3⟩)⟩
      refine ⟨_, rfl, _, _, rfl, rfl, _, rfl, ite2 (fun _ => ?_) (fun _ => ⟨D3, rfl, f3, g3, nw3, bm3⟩)⟩
      refine ⟨_, rfl, _, _, rfl, rfl, _, rfl, ite2 (fun _ => ?_) (fun _ => ⟨D3, rfl, f3, g3, nw3, bm3⟩)⟩
      refine ⟨_, rfl, _, _, rfl, rfl, k + 2, rfl, by omega, by omega, fun D4 nD4 => ?_⟩
      refine lc_it (walk_range (lo := 0) (n := k + 2)) (fun i G => Ls (K1 a) G3 D4 i (fun _ y => BotV y) G ∧ FeedAt G a cl) ⟨ls0 nD4, f3.other (f3.ne_new nD4).1 (f3.ne_new nD4).2⟩ (fun _ _ _ _ => trivial) ?_ ?_
      · rintro i y G5 G6 hi ⟨b, fb⟩ ⟨rfl, rfl⟩
        refine ⟨rfl, _, rfl, a, cl, rfl, fb, fun g G7 g0 bg f7 b7 => ?_⟩
        have g7 := Fr.but b7 fb f7
        refine ⟨(by show 2 ≤ sizeLine; decide), fun l nl => ?_⟩
        have s6 : Same G7 (upd G7 l (.lst [.int 1, .int g])) := Same.upd nl
        have hl : (upd G7 l (.lst [.int 1, .int g])) l = some (.lst [.int 1, .int g]) := upd_same
        generalize upd G7 l (.lst [.int 1, .int g]) = G8 at *
        refine ⟨_, rfl, a, cl, 2, rfl, f7.same s6, by decide, by decide, fun y G9 y0 y1 f9 b9 => ?_⟩
        have g9 := Fr.but b9 (f7.same s6) f9
        obtain ⟨v, hv, bv⟩ := atg y0 y1 (⟨g, rfl, by omega, bg⟩ : BotV (.int g))
        refine ⟨l, _, _, _, rfl, rfl, SqL.of (g9.get hl fun z => (f7.ne_new nl).1 z), hv, ?_⟩
        obtain ⟨acc, a1, a2, a3⟩ := b.step (x := v) nD4 (fun z => (f3.ne_new nD4).1 z) (fun _ _ _ h _ => h) ((g7.trans (Same.fr s6)).trans g9) bv
        exact ⟨acc, a1, by rw [a2]; exact small1000 (by omega), a3, f9.other (f3.ne_new nD4).1 (f3.ne_new nD4).2⟩
      · rintro G4 ⟨b4, f4⟩
        obtain ⟨nw4, bm4⟩ := new g3 nD4 b4
        exact ⟨D4, rfl, f4, g3.trans b4.f, nw4, bm4⟩
    rintro σ' G4 ⟨D4, rfl, f4, g4, nw4, bm4⟩
    exact ⟨_, rfl, kk D4 G4 g4 f4 nw4 bm4⟩
end
end RX

set_option Elab.async false
set_option maxRecDepth 100000
namespace RX
open PySem L2 LX VA VM VN EB
open RQ (Hg Bt)
abbrev sPlain : Stmt := topS 46
theorem scPn : FnScope ["tape", "wide", "limits", "letters", "size", "shape", "steps", "start", "end", "bottoms", "letter", "place"] ["tape", "wide", "limits"] (defScope sPlain) := ⟨rfl, rfl, rfl, by decide +kernel, rfl, by decide +kernel, by decide +kernel⟩
def StsM (B : Nat) (H : Hp) (P : Addr → Prop) (pt : Addr) (k n : Nat) : Prop := ∃ ts, H pt = some (.lst ts) ∧ P pt ∧ ts.length = k ∧ ∀ x ∈ ts, StpM B H P n x
theorem StsM.fr {B : Nat} {W P P' : Addr → Prop} {H H' : Hp} {pt : Addr} {k n : Nat} (h : StsM B H P pt k n) (f : Fr W H H') (w : ∀ b, P b → ¬ W b) (p : ∀ b, P b → P' b) : StsM B H' P' pt k n := by
  obtain ⟨ts, h1, h2, h3, h4⟩ := h
  exact ⟨ts, f.get h1 (w _ h2), p _ h2, h3, fun x hx => (h4 x hx).fr f w p⟩
theorem BotM.fr {W : Addr → Prop} {H H' : Hp} {a : Addr} {k : Nat} (h : BotM H a k) (f : Fr W H H') (w : ¬ W a) : BotM H' a k := let ⟨xs, h, l, e⟩ := h; ⟨xs, f.get h w, l, e⟩
/-- the law's plain machine: ints, and bottoms -/
structure PlM (B : Nat) (H : Hp) (P : Addr → Prop) (q : Addr) (k n : Nat) : Prop where
  ex : ∃ ps pt pe pb, H q = some (.tup [.int (k : Int), .ref ps, .ref pt, .ref pe, .ref pb]) ∧ P ps ∧ P pe ∧ P pb ∧ IntM B H ps n ∧ StsM B H P pt k n ∧ IntM B H pe n ∧ BotM H pb (k + 2)
  al : Alc P H
theorem PlM.fr {B : Nat} {W P : Addr → Prop} {H H' : Hp} {q : Addr} {k n : Nat} (h : PlM B H P q k n) (f : Fr W H H') (w : ∀ b, P b → ¬ W b) : PlM B H' P q k n := by
  obtain ⟨ps, pt, pe, pb, h1, h2, h3, h4, h5, h6, h7, h8⟩ := h.ex
  exact ⟨⟨ps, pt, pe, pb, f.t _ _ h1, h2, h3, h4, h5.fr f (w _ h2), h6.fr f w fun _ z => z, h7.fr f (w _ h3), h8.fr f (w _ h4)⟩, h.al.keep f.k⟩
theorem IntM.up {A B : Nat} {H : Hp} {a : Addr} {n : Nat} (h : IntM A H a n) (l : A ≤ B) : IntM B H a n := by
  obtain ⟨xs, h, ln, e⟩ := h
  refine ⟨xs, h, ln, fun x hx => ?_⟩
  obtain ⟨z, e, b⟩ := e x hx
  exact ⟨z, e, b.up l⟩
theorem StsM.up {A B : Nat} {H : Hp} {P : Addr → Prop} {pt : Addr} {k n : Nat} (h : StsM A H P pt k n) (l : A ≤ B) : StsM B H P pt k n := by
  obtain ⟨ts, h1, h2, h3, h4⟩ := h
  refine ⟨ts, h1, h2, h3, fun x hx => ?_⟩
  obtain ⟨a, ys, e, pa, ha, ln, r⟩ := h4 x hx
  refine ⟨a, ys, e, pa, ha, ln, fun y hy => ?_⟩
  obtain ⟨b, e, pb, i⟩ := r y hy
  exact ⟨b, e, pb, i.up l⟩
theorem PlM.up {A B : Nat} {H : Hp} {P : Addr → Prop} {q : Addr} {k n : Nat} (h : PlM A H P q k n) (l : A ≤ B) : PlM B H P q k n := by
  obtain ⟨ps, pt, pe, pb, h1, h2, h3, h4, h5, h6, h7, h8⟩ := h.ex
  exact ⟨⟨ps, pt, pe, pb, h1, h2, h3, h4, h5.up l, h6.up l, h7.up l, h8⟩, h.al⟩
theorem new_al {H G : Hp} : Alc (New H G) G := fun _ z => z.2
theorem at8 {y : Int} (h0 : 0 ≤ y) (h1 : y < 8) : ∃ v : Nat, atI [V.int 1, V.int 2, V.int 2, V.int 2, V.int 3, V.int 2, V.int 1, V.int 4] y = some (.int (v : Int)) ∧ 1 ≤ v ∧ v ≤ 4 := by
  have : y = 0 ∨ y = 1 ∨ y = 2 ∨ y = 3 ∨ y = 4 ∨ y = 5 ∨ y = 6 ∨ y = 7 := by omega
  rcases this with rfl | rfl | rfl | rfl | rfl | rfl | rfl | rfl
  · exact ⟨1, rfl, by decide, by decide⟩
  · exact ⟨2, rfl, by decide, by decide⟩
  · exact ⟨2, rfl, by decide, by decide⟩
  · exact ⟨2, rfl, by decide, by decide⟩
  · exact ⟨3, rfl, by decide, by decide⟩
  · exact ⟨2, rfl, by decide, by decide⟩
  · exact ⟨1, rfl, by decide, by decide⟩
  · exact ⟨4, rfl, by decide, by decide⟩
theorem atl {k : Nat} (h1 : 1 ≤ k) (h2 : k ≤ 4) : ∃ v : Nat, atI [V.int 4, V.int 3, V.int 2, V.int 2] ((k : Int) - 1) = some (.int (v : Int)) ∧ 1 ≤ v ∧ v ≤ 4 := by
  have : k = 1 ∨ k = 2 ∨ k = 3 ∨ k = 4 := by omega
  rcases this with rfl | rfl | rfl | rfl
  · exact ⟨4, rfl, by decide, by decide⟩
  · exact ⟨3, rfl, by decide, by decide⟩
  · exact ⟨2, rfl, by decide, by decide⟩
  · exact ⟨2, rfl, by decide, by decide⟩
def spPn : Sp := fun vs H Q _ => ∃ (a cl lm : Addr), vs = [.ref a, .bl false, .ref lm] ∧ FeedAt H a cl ∧ H lm = some (.lst [.int 4, .int 3, .int 2, .int 2]) ∧ ∀ (r : Addr) (k n : Nat) (H' : Hp), 1 ≤ k → k ≤ 4 → n ≤ 4 → Fr (K1 a) H H' → FeedAt H' a cl → PlM 80 H' (New H H') r k n → Q (.ref r) H'
section
variable {P : Program} {w : World} {K : PySem.W.Frag} {mg : Str → Option Value} {base : Heap}
theorem ok_pn {f fN fG fE fS fB : Addr} {fd dN dG dE dS dB : FuncData} (F : Fun K "_law_plain" "_law_plain" sPlain f fd) (T : TxtL mg) (cNx : CalN P w K mg base "_law_next" 1 ["tape", "limit"] spDraw fN dN) (cGr : CalN P w K mg base "_law_great" 2 ["tape"] spGrt fG dG) (cEn : CalN P w K mg base "_law_entry" 2 ["tape"] spEn fE dE)
    (cStp : CalN P w K mg base "_law_step" 3 ["tape", "size", "shape", "letter"] spStp fS dS) (cBo : CalN P w K mg base "_law_bottoms" 3 ["tape", "letters", "size"] spBo fB dB) : FnOk P w K mg base CX0 4 f fd ["tape", "wide", "limits"] spPn := by
  refine F.ok scPn (fun vs H Q E h => ?_) (fun cdv A outer s H vs Q E hr h => ?_)
  · obtain ⟨a, cl, lm, rfl, _⟩ := h
    rfl
  · obtain ⟨a, cl, lm, rfl, hF, hlm, kk⟩ := h
    have hr3 : Room 3 _ := hr
    have hr2 : Room 2 _ := hr.mono (by decide)
    have hr1 : Room 1 _ := hr.mono (by decide)
    have lma : lm ≠ a := fun z => by obtain ⟨_, _, _, _, _, g⟩ := hF; rw [z, g.hA] at hlm; cases hlm
    refine ⟨_, pss_cons (ps_set (i := 3) scPn.nd rfl (.inl rfl) (pe_ix ix_list (pe_lst (pa_cons pe_int (pa_cons pe_int (pa_cons pe_int (pa_cons pe_int (pa_cons pe_int (pa_cons pe_int (pa_cons pe_int (pa_cons pe_int pa_nil))))))))) (pe_call cNx.G hr1 rfl cNx.m cNx.kp cNx.b .nil pass0 (pa_cons (pv 0) (pa_cons pe_int pa_nil))) (fun _ _ => rfl)))
      (pss_cons (ps_set (i := 4) scPn.nd rfl (.inr rfl) (pe_call cNx.G hr1 rfl cNx.m cNx.kp cNx.b .nil pass0 (pa_cons (pv 0) (pa_cons (pe_op op_add (pe_ix ix_list (pv 2) (pe_op op_sub (pv 3) pe_int) (fun _ _ => rfl)) pe_int) pa_nil))))
      (pss_cons (ps_set (i := 5) scPn.nd rfl (.inr rfl) (pe_call cNx.G hr1 rfl cNx.m cNx.kp cNx.b .nil pass0 (pa_cons (pv 0) (pa_cons pe_int pa_nil))))
      (C8.pss_cut (ps_if (PW.pt (pw_and (pt_val (pv 1)) (pw_and1 (pt_cmpR op_eq (pe_call cNx.G hr1 rfl cNx.m cNx.kp cNx.b .nil pass0 (pa_cons (pv 0) (pa_cons pe_int pa_nil))) pe_int (nomark _)))))
        (pss_cons (ps_set (i := 3) scPn.nd rfl (.inl rfl) pe_int)
        (pss_cons (ps_set (i := 4) scPn.nd rfl (.inr rfl) (pe_op op_add pe_int (pe_call cNx.G hr1 rfl cNx.m cNx.kp cNx.b .nil pass0 (pa_cons (pv 0) (pa_cons pe_int pa_nil)))))
        (pss_one (ps_set (i := 5) scPn.nd rfl (.inr rfl) (pe_op op_add pe_int (pe_op op_mul pe_int (pe_call cNx.G hr1 rfl cNx.m cNx.kp cNx.b .nil pass0 (pa_cons (pv 0) (pa_cons pe_int pa_nil)))))))))
        pss_nil)
      (pss_cons (ps_setLc (i := 6) (own := [("letter", 10)]) (g := gName 10) (tt := tYes) rfl scPn.nd rfl rfl (sw_true rfl rfl rfl (by decide +kernel)) (pi_range1 (by rfl) T.range (pa_cons (pv 3) pa_nil)) (blkOk_by (N := ["tape", "wide", "limits", "letters", "size", "shape", "steps", "start", "end", "bottoms", "letter", "place"]) (sc := (defScope sPlain)) (by decide +kernel)) (fun _ _ _ _ _ => (pg_name (i := 10) scPn.nd rfl (.inl rfl))) (fun _ _ _ _ _ => pts_nil) (fun _ _ _ _ _ => (pe_call cStp.G hr3 rfl cStp.m cStp.kp cStp.b .nil pass0 (pa_cons (pv 0) (pa_cons (pv 4) (pa_cons (pv 5) (pa_cons (pv 10) pa_nil)))))))
      (pss_cons (ps_setLc (i := 7) (own := [("place", 11)]) (g := gName 11) (tt := tYes) rfl scPn.nd rfl rfl (sw_true rfl rfl rfl (by decide +kernel)) (pi_range1 (by rfl) T.range (pa_cons (pv 4) pa_nil)) (blkOk_by (N := ["tape", "wide", "limits", "letters", "size", "shape", "steps", "start", "end", "bottoms", "letter", "place"]) (sc := (defScope sPlain)) (by decide +kernel)) (fun _ _ _ _ _ => (pg_name (i := 11) scPn.nd rfl (.inl rfl))) (fun _ _ _ _ _ => pts_nil) (fun _ _ _ _ _ => (pe_call cEn.G hr2 rfl cEn.m cEn.kp cEn.b .nil pass0 (pa_cons (pv 0) pa_nil))))
      (pss_cons (ps_setLc (i := 8) (own := [("place", 11)]) (g := gName 11) (tt := tYes) rfl scPn.nd rfl rfl (sw_true rfl rfl rfl (by decide +kernel)) (pi_range1 (by rfl) T.range (pa_cons (pv 4) pa_nil)) (blkOk_by (N := ["tape", "wide", "limits", "letters", "size", "shape", "steps", "start", "end", "bottoms", "letter", "place"]) (sc := (defScope sPlain)) (by decide +kernel)) (fun _ _ _ _ _ => (pg_name (i := 11) scPn.nd rfl (.inl rfl))) (fun _ _ _ _ _ => pts_nil) (fun _ _ _ _ _ => (pe_call cEn.G hr2 rfl cEn.m cEn.kp cEn.b .nil pass0 (pa_cons (pv 0) pa_nil))))
      (C8.pss_cut (ps_if (PW.pt (pw_and (pt_cmpR op_gt (pv 4) pe_int (nomark _)) (pw_and1 (pt_cmpR op_gt (pe_call cNx.G hr1 rfl cNx.m cNx.kp cNx.b .nil pass0 (pa_cons (pv 0) (pa_cons pe_int pa_nil))) pe_int (nomark _)))))
        (pss_cons (ps_asg (pe_op op_add pe_int (pe_call cNx.G hr1 rfl cNx.m cNx.kp cNx.b .nil pass0 (pa_cons (pv 0) (pa_cons pe_int pa_nil)))) (pg_sub (pv 7) pe_int set_list))
        (pss_one (ps_asg pe_int (pg_sub (pv 8) (pe_op op_sub (pv 4) pe_int) set_list))))
        pss_nil)
      (pss_cons (ps_setLc (i := 9) (own := [("place", 11)]) (g := gName 11) (tt := tYes) rfl scPn.nd rfl rfl (sw_true rfl rfl rfl (by decide +kernel)) (pi_range1 (by rfl) T.range (pa_cons (pe_op op_add (pv 3) pe_int) pa_nil)) (blkOk_by (N := ["tape", "wide", "limits", "letters", "size", "shape", "steps", "start", "end", "bottoms", "letter", "place"]) (sc := (defScope sPlain)) (by decide +kernel)) (fun _ _ _ _ _ => (pg_name (i := 11) scPn.nd rfl (.inl rfl))) (fun _ _ _ _ _ => pts_nil) (fun _ _ _ _ _ => pe_int))
      (C8.pss_cut (ps_if (pt_cmpR op_lt (pv 4) pe_int (nomark _))
        (pss_one (ps_set (i := 9) scPn.nd rfl (.inl rfl) (pe_call cBo.G hr3 rfl cBo.m cBo.kp cBo.b .nil pass0 (pa_cons (pv 0) (pa_cons (pv 3) (pa_cons (pv 4) pa_nil))))))
        pss_nil)
      (C8.pss_cut (ps_if (PW.pt (pw_or (pt_cmpR op_eq (pv 4) pe_int (nomark _)) (pw_or1 (pt_cmpR op_eq (pv 4) pe_int (nomark _)))))
        (pss_one (ps_if (pt_cmpR op_eq (pe_call cNx.G hr1 rfl cNx.m cNx.kp cNx.b .nil pass0 (pa_cons (pv 0) (pa_cons pe_int pa_nil))) pe_int (nomark _))
          (pss_cons (ps_asg (pe_call cGr.G hr2 rfl cGr.m cGr.kp cGr.b .nil pass0 (pa_cons (pv 0) pa_nil)) (pg_sub (pv 7) (pe_op op_sub (pv 4) pe_int) set_list))
          (pss_one (ps_asg (pe_op op_sub pe_int (pe_call cGr.G hr2 rfl cGr.m cGr.kp cGr.b .nil pass0 (pa_cons (pv 0) pa_nil))) (pg_sub (pv 8) pe_int set_list))))
          pss_nil))
        pss_nil)
      (pss_one (ps_ret (pe_tup (pa_cons (pv 3) (pa_cons (pv 7) (pa_cons (pv 6) (pa_cons (pv 8) (pa_cons (pv 9) pa_nil)))))))))))))))))), ?_⟩
    refine ⟨(by show 8 ≤ sizeLine; decide), fun l nl => ?_⟩
    have s1 : Same H (upd H l (.lst [.int 1, .int 2, .int 2, .int 2, .int 3, .int 2, .int 1, .int 4])) := Same.upd nl
    have hl : (upd H l (.lst [.int 1, .int 2, .int 2, .int 2, .int 3, .int 2, .int 1, .int 4])) l = some (.lst [.int 1, .int 2, .int 2, .int 2, .int 3, .int 2, .int 1, .int 4]) := upd_same
    generalize upd H l (.lst [.int 1, .int 2, .int 2, .int 2, .int 3, .int 2, .int 1, .int 4]) = G1 at *
    refine ⟨_, rfl, a, cl, 8, rfl, hF.same s1, by decide, by decide, fun y G2 y0 y1 f2 b2 => ?_⟩
    have g2 := Fr.but b2 (hF.same s1) f2
    obtain ⟨k, hk, k1, k4⟩ := at8 y0 y1
    refine ⟨l, _, _, _, rfl, rfl, SqL.of (g2.get hl fun z => (hF.ne_new nl).1 z), hk, ?_⟩
    have f02 : Fr (K1 a) H G2 := (Same.fr s1).trans g2
    obtain ⟨lv, hlv, l1, l4⟩ := atl k1 k4
    refine ⟨_, rfl, _, rfl, _, rfl, _, _, rfl, rfl, lm, _, _, _, rfl, rfl, SqL.of (f02.get hlm lma), hlv, _, _, rfl, rfl, a, cl, _, rfl, f2, by omega, by omega, fun n G3 n0 n1 f3 b3 => ?_⟩
    have f03 := f02.trans (Fr.but b3 f2 f3)
    obtain ⟨n, rfl⟩ : ∃ n' : Nat, n = (n' : Int) := ⟨n.toNat, by omega⟩
    have n4 : n ≤ 4 := by omega
    refine ⟨_, rfl, a, cl, 6, rfl, f3, by decide, by decide, fun sp G4 _ _ f4 b4 => ?_⟩
    have f04 := f03.trans (Fr.but b4 f3 f4)
    refine ⟨fun σ' H' => σ' = [some (.ref a), some (.bl false), some (.ref lm), some (.int (k : Int)), some (.int (n : Int)), some (.int sp), none, none, none, none, none, none] ∧ H' = G4, ?_, ?_⟩
    · exact ⟨_, rfl, false, rfl, iteF ⟨rfl, rfl⟩⟩
    rintro σ' G5 ⟨rfl, rfl⟩
    refine ⟨_, rfl, k, rfl, by omega, by omega, fun D nD => ?_⟩
    have Da := (f4.ne_new nD).1
    have Dc := (f4.ne_new nD).2
    have st : ∀ (G G' : Hp) (y : V), StpM 80 G (fun b => New H G b ∧ b ≠ D) n y → Fr (And1 (K1 a) D) G G' → StpM 80 G' (fun b => New H G' b ∧ b ≠ D) n y := fun G G' y h f => h.fr f (fun b z y => y.elim (fun e => hF.there (by rw [← show b = a from e]; exact z.1.1)) z.2) fun b z => ⟨z.1.up2 f, z.2⟩
    refine lc_it (walk_range (lo := 0) (n := k)) (fun i G => Ls (K1 a) G5 D i (fun G y => StpM 80 G (fun b => New H G b ∧ b ≠ D) n y) G ∧ FeedAt G a cl) ⟨ls0 nD, f4.other Da Dc⟩ (fun _ _ _ _ => trivial) ?_ ?_
    · rintro i y G6 G7 hi ⟨bl, fb⟩ ⟨rfl, rfl⟩
      refine ⟨rfl, _, rfl, _, rfl, _, rfl, _, rfl, a, cl, n, _, sp, rfl, fb, by omega, fun r G8 g8 f8 hS => ?_⟩
      have hS' : StpM 80 G8 (fun b => New H G8 b ∧ b ≠ D) n (.ref r) := hS.fr (W := Emp) Fr.refl (fun _ _ => id) fun b z => ⟨z.up (f04.trans bl.f), fun e => by
        obtain ⟨acc, h, _⟩ := bl.xs
        have := z.1
        rw [e, h] at this
        cases this⟩
      obtain ⟨acc, a1, a2, a3⟩ := bl.step nD (fun z => Da z) st g8 hS'
      exact ⟨acc, a1, by rw [a2]; exact small1000 (by omega), a3, f8.other Da Dc⟩
    rintro G6 ⟨b6, f6⟩
    have f06 := f04.trans b6.f
    have hT : StsM 80 G6 (New H G6) D k n := by
      obtain ⟨ts, h1, h2, h3⟩ := b6.xs
      exact ⟨ts, h1, ⟨f04.k.free nD, by rw [h1]; intro z; cases z⟩, h2, fun x hx => (h3 x hx).fr (W := Emp) Fr.refl (fun _ _ => id) fun b z => z.1⟩
    have aP : ∀ b, New H G6 b → b ≠ a := fun b z e => hF.there (by rw [← e]; exact z.1)
    -- start
    refine ⟨_, rfl, n, rfl, by omega, by omega, fun D2 nD2 => ?_⟩
    have D2a := (f6.ne_new nD2).1
    have D2c := (f6.ne_new nD2).2
    refine lc_it (walk_range (lo := 0) (n := n)) (fun i G => Ls (K1 a) G6 D2 i (fun _ y => IntV 80 y) G ∧ FeedAt G a cl) ⟨ls0 nD2, f6.other D2a D2c⟩ (fun _ _ _ _ => trivial) ?_ ?_
    · rintro i y G7 G8 hi ⟨b, fb⟩ ⟨rfl, rfl⟩
      refine ⟨rfl, _, rfl, a, cl, rfl, fb, fun z G9 z0 z1 f9 b9 => ?_⟩
      obtain ⟨acc, a1, a2, a3⟩ := b.step (x := .int z) nD2 (fun z => D2a z) (fun _ _ _ h _ => h) (Fr.but b9 fb f9) ⟨z, rfl, bt80 (by omega)⟩
      exact ⟨acc, a1, by rw [a2]; exact small1000 (by omega), a3, f9.other D2a D2c⟩
    rintro G7 ⟨b7, f7⟩
    have i2 : IntM 80 G7 D2 n := b7.xs
    -- end
    refine ⟨_, rfl, n, rfl, by omega, by omega, fun D3 nD3 => ?_⟩
    have D3a := (f7.ne_new nD3).1
    have D3c := (f7.ne_new nD3).2
    have D32 : D3 ≠ D2 := fun z => i2.there (by rw [← z]; exact nD3)
    refine lc_it (walk_range (lo := 0) (n := n)) (fun i G => Ls (K1 a) G7 D3 i (fun _ y => IntV 80 y) G ∧ FeedAt G a cl) ⟨ls0 nD3, f7.other D3a D3c⟩ (fun _ _ _ _ => trivial) ?_ ?_
    · rintro i y G8 G9 hi ⟨b, fb⟩ ⟨rfl, rfl⟩
      refine ⟨rfl, _, rfl, a, cl, rfl, fb, fun z G10 z0 z1 f9 b9 => ?_⟩
      obtain ⟨acc, a1, a2, a3⟩ := b.step (x := .int z) nD3 (fun z => D3a z) (fun _ _ _ h _ => h) (Fr.but b9 fb f9) ⟨z, rfl, bt80 (by omega)⟩
      exact ⟨acc, a1, by rw [a2]; exact small1000 (by omega), a3, f9.other D3a D3c⟩
    rintro G8 ⟨b8, f8⟩
    have i3 : IntM 80 G8 D3 n := b8.xs
    have i2 : IntM 80 G8 D2 n := i2.fr b8.f fun z => D2a z
    -- what is written from here on
    have PW : ∀ b, New H G6 b → ¬ (b = a ∨ b = D2 ∨ b = D3) := fun b z y => by
      rcases y with y | y | y
      · exact aP b z y
      · exact z.2 (by rw [y]; exact nD2)
      · exact z.2 (by rw [y]; exact b7.f.k.free nD3)
    have new2 : H D2 = none := f06.k.free nD2
    have new3 : H D3 = none := f06.k.free (b7.f.k.free nD3)
    have base8 : Fr (K1 a) H G8 := (f06.trans b7.f).trans b8.f
    have f68 : Fr (fun b => b = a ∨ b = D2 ∨ b = D3) G6 G8 := (b7.f.trans b8.f).more fun _ z => .inl z
    have inv8 : FeedAt G8 a cl ∧ Fr (K1 a) H G8 ∧ Fr (fun b => b = a ∨ b = D2 ∨ b = D3) G6 G8 ∧ IntM 80 G8 D2 n ∧ IntM 80 G8 D3 n := ⟨f8, base8, f68, i2, i3⟩
    have up2 : ∀ (G : Hp) (xs : List V) (i : Nat) (z : Int), (FeedAt G a cl ∧ Fr (K1 a) H G ∧ Fr (fun b => b = a ∨ b = D2 ∨ b = D3) G6 G ∧ IntM 80 G D2 n ∧ IntM 80 G D3 n) → G D2 = some (.lst xs) → Bt 80 z → FeedAt (upd G D2 (.lst (xs.set i (.int z)))) a cl ∧ Fr (K1 a) H (upd G D2 (.lst (xs.set i (.int z)))) ∧ Fr (fun b => b = a ∨ b = D2 ∨ b = D3) G6 (upd G D2 (.lst (xs.set i (.int z)))) ∧ IntM 80 (upd G D2 (.lst (xs.set i (.int z)))) D2 n ∧ IntM 80 (upd G D2 (.lst (xs.set i (.int z)))) D3 n := fun G xs i z ⟨q1, q2, q3, q4, q5⟩ hx bz => by
      have fu : Fr (K1 D2) G (upd G D2 (.lst (xs.set i (.int z)))) := Fr.updL rfl hx
      exact ⟨q1.other D2a D2c, Fr.dropS (W := fun b => K1 a b ∨ b = D2) ((q2.more fun _ z => .inl z).trans (fu.more fun _ z => .inr z)) fun b z => z.imp id fun e => by rw [e]; exact new2, q3.trans (fu.more fun _ z => .inr (.inl z)), q4.set hx bz, q5.fr fu fun z => D32 z⟩
    have up3 : ∀ (G : Hp) (xs : List V) (i : Nat) (z : Int), (FeedAt G a cl ∧ Fr (K1 a) H G ∧ Fr (fun b => b = a ∨ b = D2 ∨ b = D3) G6 G ∧ IntM 80 G D2 n ∧ IntM 80 G D3 n) → G D3 = some (.lst xs) → Bt 80 z → FeedAt (upd G D3 (.lst (xs.set i (.int z)))) a cl ∧ Fr (K1 a) H (upd G D3 (.lst (xs.set i (.int z)))) ∧ Fr (fun b => b = a ∨ b = D2 ∨ b = D3) G6 (upd G D3 (.lst (xs.set i (.int z)))) ∧ IntM 80 (upd G D3 (.lst (xs.set i (.int z)))) D2 n ∧ IntM 80 (upd G D3 (.lst (xs.set i (.int z)))) D3 n := fun G xs i z ⟨q1, q2, q3, q4, q5⟩ hx bz => by
      have fu : Fr (K1 D3) G (upd G D3 (.lst (xs.set i (.int z)))) := Fr.updL rfl hx
      exact ⟨q1.other D3a D3c, Fr.dropS (W := fun b => K1 a b ∨ b = D3) ((q2.more fun _ z => .inl z).trans (fu.more fun _ z => .inr z)) fun b z => z.imp id fun e => by rw [e]; exact new3, q3.trans (fu.more fun _ z => .inr (.inr z)), q4.fr fu fun z => D32 z.symm, q5.set hx bz⟩
    have dr : ∀ (G G' : Hp), (FeedAt G a cl ∧ Fr (K1 a) H G ∧ Fr (fun b => b = a ∨ b = D2 ∨ b = D3) G6 G ∧ IntM 80 G D2 n ∧ IntM 80 G D3 n) → Fr (K1 a) G G' → FeedAt G' a cl → (FeedAt G' a cl ∧ Fr (K1 a) H G' ∧ Fr (fun b => b = a ∨ b = D2 ∨ b = D3) G6 G' ∧ IntM 80 G' D2 n ∧ IntM 80 G' D3 n) := fun G G' ⟨q1, q2, q3, q4, q5⟩ f fe => ⟨fe, q2.trans f, q3.trans (f.more fun _ z => .inl z), q4.fr f fun z => D2a z, q5.fr f fun z => D3a z⟩
    refine ⟨fun σ' G => σ' = [some (.ref a), some (.bl false), some (.ref lm), some (.int (k : Int)), some (.int (n : Int)), some (.int sp), some (.ref D), some (.ref D2), some (.ref D3), none, none, none] ∧ (FeedAt G a cl ∧ Fr (K1 a) H G ∧ Fr (fun b => b = a ∨ b = D2 ∨ b = D3) G6 G ∧ IntM 80 G D2 n ∧ IntM 80 G D3 n), ?_, ?_⟩
    · refine ⟨_, rfl, _, _, rfl, rfl, _, rfl, ite2 (fun e0 => ?_) (fun _ => ⟨rfl, inv8⟩)⟩
      have np : 0 < n := by have := of_decide_eq_true e0; omega
      refine ⟨_, rfl, a, cl, 5, rfl, f8, by decide, by decide, fun y G9 _ _ f9 b9 => ?_⟩
      have inv9 := dr _ _ inv8 (Fr.but b9 f8 f9) f9
      refine ⟨_, _, rfl, rfl, _, rfl, ite2 (fun _ => ?_) (fun _ => ⟨rfl, inv9⟩)⟩
      refine ⟨_, rfl, a, cl, 2, rfl, f9, by decide, by decide, fun z G10 z0 z1 f10 b10 => ?_⟩
      have inv10 := dr _ _ inv9 (Fr.but b10 f9 f10) f10
      obtain ⟨xs, _, hx, lx, _, _⟩ := inv10.2.2.2.1.get np
      refine ⟨_, _, rfl, rfl, _, rfl, D2, xs, 0, 0, rfl, rfl, hx, ixN_at rfl (by omega), ?_⟩
      have inv11 := up2 _ xs 0 (1 + z) inv10 hx (bt80 (by omega))
      generalize upd G10 D2 (.lst (xs.set 0 (.int (1 + z)))) = G11 at *
      obtain ⟨ys, _, hy, ly, _, _⟩ := inv11.2.2.2.2.get np
      refine ⟨_, rfl, _, rfl, _, _, rfl, rfl, D3, ys, (n : Int) - 1, n - 1, rfl, rfl, hy, ixN_at (by omega) (by omega), ?_⟩
      exact ⟨rfl, up3 _ ys (n - 1) 1 inv11 hy (bt80 (by decide))⟩
    rintro σ' G9 ⟨rfl, inv9⟩
    -- bottoms
    refine ⟨_, rfl, _, _, rfl, rfl, k + 2, rfl, by omega, by omega, fun D4 nD4 => ?_⟩
    have f9 := inv9.1
    have D4a := (f9.ne_new nD4).1
    have D4c := (f9.ne_new nD4).2
    refine lc_it (walk_range (lo := 0) (n := k + 2)) (fun i G => Ls (K1 a) G9 D4 i (fun _ y => BotV y) G ∧ FeedAt G a cl) ⟨ls0 nD4, f9.other D4a D4c⟩ (fun _ _ _ _ => trivial) ?_ ?_
    · rintro i y G5 G6 hi ⟨b, fb⟩ ⟨rfl, rfl⟩
      refine ⟨rfl, ?_⟩
      obtain ⟨acc, a1, a2, a3⟩ := b.step (x := .int 1) nD4 (fun z => D4a z) (fun _ _ _ h _ => h) Fr.refl bot1
      exact ⟨acc, a1, by rw [a2]; exact small1000 (by omega), a3, fb.other D4a D4c⟩
    rintro G10 ⟨b10, f10⟩
    have inv10 := dr _ _ inv9 b10.f f10
    have bm10 : BotM G10 D4 (k + 2) := b10.xs
    have nb10 : G9 D4 = none := nD4
    refine ⟨fun σ' G => ∃ D4, σ' = [some (.ref a), some (.bl false), some (.ref lm), some (.int (k : Int)), some (.int (n : Int)), some (.int sp), some (.ref D), some (.ref D2), some (.ref D3), some (.ref D4), none, none] ∧ (FeedAt G a cl ∧ Fr (K1 a) H G ∧ Fr (fun b => b = a ∨ b = D2 ∨ b = D3) G6 G ∧ IntM 80 G D2 n ∧ IntM 80 G D3 n) ∧ BotM G D4 (k + 2) ∧ New G9 G D4, ?_, ?_⟩
    · refine ⟨_, rfl, _, _, rfl, rfl, _, rfl, ite2 (fun _ => ?_) (fun _ => ⟨D4, rfl, inv10, bm10, nD4, by obtain ⟨_, h, _⟩ := bm10; rw [h]; intro z; cases z⟩)⟩
      refine ⟨_, rfl, _, rfl, _, rfl, a, cl, k, n, rfl, f10, k4, by omega, fun r G11 g11 f11 nr bm => ?_⟩
      exact ⟨r, rfl, dr _ _ inv10 g11 f11, bm, b10.f.k.free nr.1, nr.2⟩
    rintro σ' G11 ⟨D4, rfl, inv11, bm11, nw11⟩
    have D4a : D4 ≠ a := fun z => f9.there (by rw [← z]; exact nw11.1)
    have D4c : D4 ≠ cl := fun z => by obtain ⟨ys, h⟩ := f9.lst2; rw [← z, nw11.1] at h; cases h
    have D42 : D4 ≠ D2 := fun z => inv9.2.2.2.1.there (by rw [← z]; exact nw11.1)
    have D43 : D4 ≠ D3 := fun z => inv9.2.2.2.2.there (by rw [← z]; exact nw11.1)
    refine ⟨fun σ' G => σ' = [some (.ref a), some (.bl false), some (.ref lm), some (.int (k : Int)), some (.int (n : Int)), some (.int sp), some (.ref D), some (.ref D2), some (.ref D3), some (.ref D4), none, none] ∧ (FeedAt G a cl ∧ Fr (K1 a) H G ∧ Fr (fun b => b = a ∨ b = D2 ∨ b = D3) G6 G ∧ IntM 80 G D2 n ∧ IntM 80 G D3 n) ∧ BotM G D4 (k + 2), ?_, ?_⟩
    · refine ⟨_, rfl, rfl, _, rfl, ite2 (fun e => ?_) (fun _ => ⟨_, rfl, rfl, _, rfl, ite2 (fun e => ?_) (fun _ => ⟨rfl, inv11, bm11⟩)⟩)⟩
      all_goals
        have np : 0 < n := by
          have e := of_decide_eq_true e
          injection e with e
          omega
        refine ⟨_, rfl, a, cl, 6, rfl, inv11.1, by decide, by decide, fun y G12 _ _ f12 b12 => ?_⟩
        have g12 := Fr.but b12 inv11.1 f12
        have inv12 := dr _ _ inv11 g12 f12
        have bm12 := bm11.fr g12 fun z => D4a z
        refine ⟨rfl, _, rfl, ite2 (fun _ => ?_) (fun _ => ⟨rfl, inv12, bm12⟩)⟩
        refine ⟨_, rfl, a, cl, rfl, f12, fun z G13 z0 bz f13 b13 => ?_⟩
        have g13 := Fr.but b13 f12 f13
        have inv13 := dr _ _ inv12 g13 f13
        have bm13 := bm12.fr g13 fun z => D4a z
        obtain ⟨xs, _, hx, lx, _, _⟩ := inv13.2.2.2.1.get np
        refine ⟨_, rfl, _, rfl, _, _, rfl, rfl, D2, xs, (n : Int) - 1, n - 1, rfl, rfl, hx, ixN_at (by omega) (by omega), ?_⟩
        have inv14 := up2 _ xs (n - 1) z inv13 hx (bz.up (by decide))
        have bm14 := bm13.fr (Fr.updL (W := K1 D2) (o := .lst (xs.set (n - 1) (.int z))) rfl hx) fun z => D42 z
        generalize upd G13 D2 (.lst (xs.set (n - 1) (.int z))) = G14 at *
        refine ⟨_, rfl, a, cl, rfl, inv14.1, fun z G15 z0 bz f15 b15 => ?_⟩
        have g15 := Fr.but b15 inv14.1 f15
        have inv15 := dr _ _ inv14 g15 f15
        have bm15 := bm14.fr g15 fun z => D4a z
        obtain ⟨ys, _, hy, ly, _, _⟩ := inv15.2.2.2.2.get np
        refine ⟨_, _, rfl, rfl, _, rfl, D3, ys, 0, 0, rfl, rfl, hy, ixN_at rfl (by omega), ?_⟩
        have b0 : Bt 80 (0 - z) := Bt.up (a := 70) (show (0 - z).natAbs < 2 ^ 70 by rw [Int.zero_sub, Int.natAbs_neg]; exact bz) (by decide)
        exact ⟨rfl, up3 _ ys 0 (0 - z) inv15 hy b0, bm15.fr (Fr.updL (W := K1 D3) rfl hy) fun z => D43 z⟩
    rintro σ' G12 ⟨rfl, inv12, bm12⟩
    obtain ⟨f12, base12, f612, i212, i312⟩ := inv12
    have nD4H : H D4 = none := inv9.2.1.k.free nw11.1
    refine ⟨_, rfl, _, rfl, _, rfl, _, rfl, _, rfl, (by show 5 ≤ sizeLine; decide), fun r nr => ?_⟩
    have s13 : Same G12 (upd G12 r (.tup [.int (k : Int), .ref D2, .ref D, .ref D3, .ref D4])) := Same.upd nr
    have hr : (upd G12 r (.tup [.int (k : Int), .ref D2, .ref D, .ref D3, .ref D4])) r = some (.tup [.int (k : Int), .ref D2, .ref D, .ref D3, .ref D4]) := upd_same
    generalize upd G12 r (.tup [.int (k : Int), .ref D2, .ref D, .ref D3, .ref D4]) = G13 at *
    have g13 : Fr Emp G12 G13 := Same.fr s13
    have f613 : Fr (fun b => b = a ∨ b = D2 ∨ b = D3) G6 G13 := f612.trans (g13.more fun _ z => z.elim)
    have i2' := i212.fr g13 id
    have i3' := i312.fr g13 id
    have b4' := bm12.fr g13 id
    refine kk r k n G13 k1 k4 n4 (base12.trans (g13.more fun _ z => z.elim)) (f12.same s13) ⟨⟨D2, D, D3, D4, hr, ⟨new2, i2'.there⟩, ⟨new3, i3'.there⟩, ⟨nD4H, by obtain ⟨_, h, _⟩ := b4'; rw [h]; intro z; cases z⟩, i2', hT.fr f613 PW (fun b z => z.up2 f613), i3', b4'⟩, new_al⟩
end
end RX

set_option Elab.async false
set_option maxRecDepth 100000
namespace RX
open PySem L2 LX VA VM VN EB
open RQ (Hg Bt)
abbrev sReached : Stmt := topS 61
theorem scRe : FnScope ["plain", "size", "start", "end", "first", "at", "place"] ["plain"] (defScope sReached) := ⟨rfl, rfl, rfl, by decide +kernel, rfl, by decide +kernel, by decide +kernel⟩
def rLstO (K : PySem.W.Frag) : List V → Hp → VK → Prop := fun xs H Q => ∃ p ys, xs = [.ref p] ∧ (SqL K H p ys ∨ SqT K H p ys) ∧ ∀ l : Addr, H l = none → Q (.ref l) (upd H l (.lst ys))
theorem call_listK {X : Cx} : CallR X (.type "list") (rLstO X.K) := call_list_of
theorem cut_drop (xs : List V) (n : Nat) : cutV xs (some (n : Int)) none = xs.drop n := by
  unfold cutV
  rw [show HT.sIx xs.length 0 (some (n : Int)) = min n xs.length from HT.sIx_nat xs.length 0 n, HT.sIx_none]
  by_cases h : n ≤ xs.length
  · rw [Nat.min_eq_left h]
    exact List.take_of_length_le (by rw [List.length_drop]; omega)
  · rw [Nat.min_eq_right (by omega), List.drop_of_length_le (Nat.le_refl _), List.drop_of_length_le (by omega)]
    exact List.take_nil
theorem bt_max {z : Int} (h : Bt 80 z) : Bt 80 (if z > 1 then z else 1) := by
  split
  · exact h
  · exact bt80 (by decide)
theorem bt_bit {b : Bool} {z : Int} (h : Bt 80 z) : Bt 80 ((if b = true then 1 else 0) * z) := by
  cases b
  · show (0 * z).natAbs < _
    rw [Int.zero_mul]
    exact Nat.two_pow_pos _
  · show (1 * z).natAbs < _
    rw [Int.one_mul]
    exact h
def spRe : Sp := fun vs H Q _ => ∃ (P : Addr → Prop) (q : Addr) (k n : Nat), vs = [.ref q] ∧ PlM 80 H P q k n ∧ 1 ≤ k ∧ k ≤ 4 ∧ n ≤ 900 ∧ ∀ (r : Addr) (H' : Hp) (P' : Addr → Prop), (∀ b, P' b → P b ∨ H b = none) → Same H H' → PlM 80 H' P' r k n → Q (.ref r) H'
section
variable {P : Program} {w : World} {K : PySem.W.Frag} {mg : Str → Option Value} {base : Heap}
theorem ok_re {f : Addr} {fd : FuncData} (F : Fun K "_law_reached" "_law_reached" sReached f fd) (T : TxtL mg) (TP : TxtP mg) : FnOk P w K mg base CX0 1 f fd ["plain"] spRe := by
  refine F.ok scRe (fun vs H Q E h => ?_) (fun cdv A outer s H vs Q E hr h => ?_)
  · obtain ⟨P, q, k, n, rfl, _⟩ := h
    rfl
  · obtain ⟨P, q, k, n, rfl, hq, k1, k4, hn, kk⟩ := h
    obtain ⟨ps, pt, pe, pb, h1, p1, p2, p3, i1, hT, i2, hB⟩ := hq.ex
    obtain ⟨xs, hxs, lxs, exs⟩ := i1
    refine ⟨_, pss_cons (ps_set (i := 1) scRe.nd rfl (.inr rfl) (pe_callB call_len_seq (by rfl) T.len PySem.boot_len (pa_cons (pe_ix ix_tup (pv 0) pe_int (fun _ _ => rfl)) pa_nil)))
      (pss_cons (ps_setLc (i := 2) (own := [("place", 6)]) (g := gName 6) (tt := tYes) rfl scRe.nd rfl rfl (sw_true rfl rfl rfl (by decide +kernel)) (pi_range1 (by rfl) T.range (pa_cons (pv 1) pa_nil)) (blkOk_by (N := ["plain", "size", "start", "end", "first", "at", "place"]) (sc := (defScope sReached)) (by decide +kernel)) (fun _ _ _ _ _ => (pg_name (i := 6) scRe.nd rfl (.inl rfl))) (fun _ _ _ _ _ => pts_nil) (fun _ _ _ _ _ => (pe_op RQ.op_mulH (pe_callTy call_int1 (by rfl) T.int (by decide +kernel) (pa_cons (pe_cmpR op_eq (pv 6) pe_int (nomark _)) pa_nil)) (pe_callB (call_max2 rfl) (by rfl) T.max (by decide +kernel) (pa_cons pe_int (pa_cons (pe_ix (show IxR _ (rIxL K) from ix_list) (pe_ix (show IxR _ (rIxT K) from ix_tup) (pv 0) pe_int (fun _ _ => rfl)) (pv 6) (fun _ _ => rfl)) pa_nil))))))
      (pss_cons (ps_setLc (i := 3) (own := [("place", 6)]) (g := gName 6) (tt := tYes) rfl scRe.nd rfl rfl (sw_true rfl rfl rfl (by decide +kernel)) (pi_range1 (by rfl) T.range (pa_cons (pv 1) pa_nil)) (blkOk_by (N := ["plain", "size", "start", "end", "first", "at", "place"]) (sc := (defScope sReached)) (by decide +kernel)) (fun _ _ _ _ _ => (pg_name (i := 6) scRe.nd rfl (.inl rfl))) (fun _ _ _ _ _ => pts_nil) (fun _ _ _ _ _ => (pe_callTy call_int1 (by rfl) T.int (by decide +kernel) (pa_cons (pe_cmpR op_eq (pe_op op_add (pv 6) pe_int) (pv 1) (nomark _)) pa_nil))))
      (pss_cons (ps_set (i := 4) scRe.nd rfl (.inl rfl) (pe_lst pa_nil))
      (pss_cons (ps_for PassesOwn.never rfl (pi_range1 (by rfl) T.range (pa_cons (pv 1) pa_nil)) (pg_name (i := 5) scRe.nd rfl (.inr rfl))
        (pss_one (ps_if (pt_cmpR op_lt (pe_op op_add (pv 5) pe_int) (pv 1) (nomark _))
          (pss_one (ps_expr (pe_bm PySem.F.plainAttrs_list PySem.F.slot_list_append PySem.F.type_list_append mt_append (pv 4) (pa_cons (pe_lc (own := [("place", 6)]) (g := gName 6) (tt := tYes) rfl scRe.nd (pi_range1 (by rfl) T.range (pa_cons (pv 1) pa_nil)) (blkOk_by (N := ["plain", "size", "start", "end", "first", "at", "place"]) (sc := (defScope sReached)) (by decide +kernel)) (fun _ _ _ _ _ => (pg_name (i := 6) scRe.nd rfl (.inl rfl))) (fun _ _ _ _ _ => pts_nil) (fun _ _ _ _ _ => (pe_callTy call_int1 (by rfl) T.int (by decide +kernel) (pa_cons (pe_cmpR op_eq (pv 6) (pe_op op_add (pv 5) pe_int) (nomark _)) pa_nil)))) pa_nil))))
          (pss_one (ps_expr (pe_bm PySem.F.plainAttrs_list PySem.F.slot_list_append PySem.F.type_list_append mt_append (pv 4) (pa_cons (pe_callTy (T := "list") (show CallR _ (.type "list") (rLstO K) from call_listK) (by rfl) TP.list (by decide +kernel) (pa_cons (pe_ix ix_list (pe_ix ix_list (pe_ix ix_tup (pv 0) pe_int (fun _ _ => rfl)) pe_int (fun _ _ => rfl)) (pv 5) (fun _ _ => rfl)) pa_nil)) pa_nil)))))))
      (pss_one (ps_ret (pe_tup (pa_cons (pe_ix ix_tup (pv 0) pe_int (fun _ _ => rfl)) (pa_cons (pv 2) (pa_cons (pe_op op_cat (pe_lst (pa_cons (pv 4) pa_nil)) (pe_slice sl_list (pe_ix ix_tup (pv 0) pe_int (fun _ _ => rfl)) (po_some pe_int) po_none)) (pa_cons (pv 3) (pa_cons (pe_ix ix_tup (pv 0) pe_int (fun _ _ => rfl)) pa_nil)))))))))))), ?_⟩
    refine ⟨_, rfl, q, _, 1, _, rfl, rfl, SqT.of h1, rfl, ps, xs, rfl, .inl (SqL.of hxs), ?_⟩
    rw [lxs]
    refine ⟨_, rfl, n, rfl, by omega, by omega, fun D nD => ?_⟩
    refine lc_it (walk_range (lo := 0) (n := n)) (fun i G => Ls Emp H D i (fun _ y => IntV 80 y) G) (ls0 nD) (fun _ _ _ _ => trivial) ?_ ?_
    · rintro i y G5 G6 hi b ⟨rfl, rfl⟩
      have s5 : Same H G6 := b.f.k.same
      obtain ⟨z, hz, bz⟩ := exs _ (List.getElem_mem (show i < xs.length by omega))
      refine ⟨rfl, _, rfl, rfl, .inr ⟨_, rfl, _, rfl, q, _, 1, _, rfl, rfl, SqT.of (s5 _ _ h1), rfl, _, rfl, ps, xs, _, _, rfl, rfl, SqL.of (s5 _ _ hxs), at_of (Int.zero_add _) (by rw [List.getElem?_eq_getElem (show i < xs.length by omega), hz]), _, _, rfl, ?_⟩⟩
      have bm := bt_max bz
      refine ⟨_, _, rfl, rfl, ⟨⟨80, by decide, bit80 _⟩, ⟨80, by decide, bm⟩⟩, ?_⟩
      obtain ⟨acc, a1, a2, a3⟩ := b.step nD id (fun _ _ _ h _ => h) Fr.refl ⟨_, rfl, bt_bit bm⟩
      exact ⟨acc, a1, by rw [a2]; exact small1000 (by omega), a3⟩
    rintro G1 b1
    have iD : IntM 80 G1 D n := b1.xs
    have s1 : Same H G1 := b1.f.k.same
    refine ⟨_, rfl, n, rfl, by omega, by omega, fun D2 nD2 => ?_⟩
    refine lc_it (walk_range (lo := 0) (n := n)) (fun i G => Ls Emp G1 D2 i (fun _ y => IntV 80 y) G) (ls0 nD2) (fun _ _ _ _ => trivial) ?_ ?_
    · rintro i y G5 G6 hi b ⟨rfl, rfl⟩
      refine ⟨rfl, _, rfl, _, _, rfl, rfl, _, rfl, rfl, .inr ⟨_, rfl, ?_⟩⟩
      obtain ⟨acc, a1, a2, a3⟩ := b.step nD2 id (fun _ _ _ h _ => h) Fr.refl ⟨_, rfl, bit80 _⟩
      exact ⟨acc, a1, by rw [a2]; exact small1000 (by omega), a3⟩
    rintro G2 b2
    have iD2 : IntM 80 G2 D2 n := b2.xs
    have s2 : Same H G2 := s1.trans b2.f.k.same
    have iD' := iD.fr b2.f id
    refine ⟨(by show 0 ≤ sizeLine; decide), fun D3 nD3 => ?_⟩
    obtain ⟨ts, hts, pts, lts, ets⟩ := hT
    have st : ∀ (G G' : Hp) (y : V), (∃ b, y = .ref b ∧ b ≠ D3 ∧ H b = none ∧ IntM 80 G b n) → Fr (And1 Emp D3) G G' → ∃ b, y = .ref b ∧ b ≠ D3 ∧ H b = none ∧ IntM 80 G' b n := fun G G' y h f => by
      obtain ⟨b, e, n1, nb, i⟩ := h
      exact ⟨b, e, n1, nb, i.fr f fun z => z.elim id n1⟩
    refine ⟨_, rfl, n, rfl, by omega, by omega, for_range (n := n) (fun i σ G => ∃ o5, σ = [some (.ref q), some (.int (n : Int)), some (.ref D), some (.ref D2), some (.ref D3), o5, none] ∧ Ls Emp G2 D3 i (fun G y => ∃ b, y = .ref b ∧ b ≠ D3 ∧ H b = none ∧ IntM 80 G b n) G) ⟨none, rfl, ls0 nD3⟩ ?_ ?_⟩
    · rintro i σ G hi ⟨o5, rfl, ls⟩
      have sG : Same H G := s2.trans ls.f.k.same
      obtain ⟨acc0, hacc0, _⟩ := ls.xs
      refine ⟨_, rfl, _, _, rfl, rfl, _, rfl, _, _, rfl, rfl, _, rfl, ite2 (fun _ => ?_) (fun _ => ?_)⟩
      · refine ⟨_, rfl, .inl ⟨rfl, _, SqL.of hacc0⟩, _, rfl, n, rfl, by omega, by omega, fun L nL => ?_⟩
        refine lc_it (walk_range (lo := 0) (n := n)) (fun j G3 => Ls Emp G L j (fun _ y => IntV 80 y) G3) (ls0 nL) (fun _ _ _ _ => trivial) ?_ ?_
        · rintro j y G5 G6 hj b ⟨rfl, rfl⟩
          refine ⟨rfl, _, rfl, _, rfl, _, _, rfl, rfl, rfl, .inr ⟨_, rfl, ?_⟩⟩
          obtain ⟨acc, a1, a2, a3⟩ := b.step nL id (fun _ _ _ h _ => h) Fr.refl ⟨_, rfl, bit80 _⟩
          exact ⟨acc, a1, by rw [a2]; exact small1000 (by omega), a3⟩
        · rintro G3 b3
          have iL : IntM 80 G3 L n := b3.xs
          have LD : L ≠ D3 := fun z => by rw [← z, nL] at hacc0; cases hacc0
          obtain ⟨acc, a1, a2, a3⟩ := ls.step (x := .ref L) nD3 id st b3.f ⟨L, rfl, LD, sG.free nL, iL⟩
          exact ⟨D3, acc, _, rfl, rfl, a1, by rw [a2]; exact small1000 (by omega), _, rfl, a3⟩
      · obtain ⟨t0, ht0⟩ : ∃ t0, ts[0]? = some t0 := ⟨_, List.getElem?_eq_getElem (show 0 < ts.length by omega)⟩
        obtain ⟨sa, ys, rfl, psa, hsa, lys, eys⟩ := ets t0 (List.mem_of_getElem? ht0)
        have hyi := List.getElem_mem (show i < ys.length by omega)
        obtain ⟨rb, erb, prb, zs, hzs, lzs, ezs⟩ := eys _ hyi
        refine ⟨_, rfl, .inl ⟨rfl, _, SqL.of hacc0⟩, _, rfl, q, _, 2, _, rfl, rfl, SqT.of (sG _ _ h1), rfl, pt, ts, 0, _, rfl, rfl, SqL.of (sG _ _ hts), at_of rfl ht0, _, rfl, sa, ys, _, _, rfl, rfl, SqL.of (sG _ _ hsa), at_of (Int.zero_add _) (by rw [List.getElem?_eq_getElem (show i < ys.length by omega), erb]), rb, zs, rfl, .inl (SqL.of (sG _ _ hzs)), fun L nL => ?_⟩
        have LD : L ≠ D3 := fun z => by rw [← z, nL] at hacc0; cases hacc0
        obtain ⟨acc, a1, a2, a3⟩ := ls.step (x := .ref L) nD3 id st (Same.fr (Same.upd (o := .lst zs) nL)) ⟨L, rfl, LD, sG.free nL, zs, upd_same, lzs, ezs⟩
        exact ⟨D3, acc, _, rfl, rfl, a1, by rw [a2]; exact small1000 (by omega), _, rfl, a3⟩
    · rintro σ G ⟨o5, rfl, ls⟩
      have sG : Same H G := s2.trans ls.f.k.same
      obtain ⟨rows, hrows, lrows, erows⟩ := ls.xs
      refine ⟨_, rfl, q, _, 0, _, rfl, rfl, SqT.of (sG _ _ h1), rfl, _, rfl, _, rfl, (by show 1 ≤ sizeLine; decide), fun l1 nl1 => ?_⟩
      have s4 : Same G (upd G l1 (.lst [.ref D3])) := Same.upd nl1
      have hl1 : (upd G l1 (.lst [.ref D3])) l1 = some (.lst [.ref D3]) := upd_same
      generalize upd G l1 (.lst [.ref D3]) = G4 at *
      have s04 := sG.trans s4
      refine ⟨_, rfl, q, _, 2, _, rfl, rfl, SqT.of (s04 _ _ h1), rfl, 1, rfl, pt, ts, rfl, SqL.of (s04 _ _ hts), fun l2 nl2 => ?_⟩
      have s5 : Same G4 (upd G4 l2 (.lst (cutV ts (some 1) none))) := Same.upd nl2
      have hl2 : (upd G4 l2 (.lst (cutV ts (some 1) none))) l2 = some (.lst (ts.drop 1)) := by rw [upd_same, ← cut_drop ts 1]; rfl
      generalize upd G4 l2 (.lst (cutV ts (some 1) none)) = G5 at *
      have s05 := s04.trans s5
      refine ⟨l1, l2, [.ref D3], ts.drop 1, rfl, rfl, s5 _ _ hl1, hl2, Nat.le_of_lt (small1000 (by rw [List.length_drop, lts]; show 1 + (k - 1) ≤ 1000; omega)), fun l3 nl3 => ?_⟩
      have s6 : Same G5 (upd G5 l3 (.lst ([.ref D3] ++ ts.drop 1))) := Same.upd nl3
      have hl3 : (upd G5 l3 (.lst ([.ref D3] ++ ts.drop 1))) l3 = some (.lst (.ref D3 :: ts.drop 1)) := upd_same
      generalize upd G5 l3 (.lst ([.ref D3] ++ ts.drop 1)) = G6 at *
      have s06 := s05.trans s6
      refine ⟨_, rfl, _, rfl, q, _, 4, _, rfl, rfl, SqT.of (s06 _ _ h1), rfl, (by show 5 ≤ sizeLine; decide), fun r nr => ?_⟩
      have s7 : Same G6 (upd G6 r (.tup [.int (k : Int), .ref D, .ref l3, .ref D2, .ref pb])) := Same.upd nr
      have hr : (upd G6 r (.tup [.int (k : Int), .ref D, .ref l3, .ref D2, .ref pb])) r = some (.tup [.int (k : Int), .ref D, .ref l3, .ref D2, .ref pb]) := upd_same
      generalize upd G6 r (.tup [.int (k : Int), .ref D, .ref l3, .ref D2, .ref pb]) = G7 at *
      have s07 := s06.trans s7
      have sG7 : Same G G7 := (s4.trans s5).trans (s6.trans s7)
      have gG7 : Fr Emp G G7 := Same.fr sG7
      have g07 : Fr Emp H G7 := Same.fr s07
      have iDe := (iD'.fr ls.f id).fr gG7 id
      have iD2e := (iD2.fr ls.f id).fr gG7 id
      have al7 : Alc P G7 := hq.al.keep g07.k
      refine kk r G7 (fun b => P b ∨ New H G7 b) (fun b z => z.imp id fun z => z.1) s07 ⟨⟨D, l3, D2, pb, hr, .inr ⟨nD, iDe.there⟩, .inr ⟨s1.free nD2, iD2e.there⟩, .inl p3, iDe, ⟨_, s7 _ _ hl3, .inr ⟨s05.free nl3, by rw [s7 _ _ hl3]; intro z; cases z⟩, ?_, fun x hx => ?_⟩, iD2e, hB.fr g07 id⟩, fun b z => z.elim (al7 b) fun z => z.2⟩
      · show (ts.drop 1).length + 1 = k
        rw [List.length_drop, lts]
        omega
      · rcases List.mem_cons.mp hx with rfl | hx
        · refine ⟨D3, rows, rfl, .inr ⟨s2.free nD3, by rw [sG7 _ _ hrows]; intro z; cases z⟩, sG7 _ _ hrows, lrows, fun y hy => ?_⟩
          obtain ⟨b, rfl, _, nb, i⟩ := erows y hy
          have i' := i.fr gG7 id
          exact ⟨b, rfl, .inr ⟨nb, i'.there⟩, i'⟩
        · exact (ets x (List.mem_of_mem_drop hx)).fr g07 (fun _ _ => id) fun b z => .inl z
end
end RX

set_option Elab.async false
set_option maxRecDepth 100000
namespace RX
open PySem L2 LX VA VM VN EB
open RQ (Hg Bt)
abbrev sOver : Stmt := topS 47
theorem scOv : FnScope ["row", "bottom", "number"] ["row", "bottom"] (defScope sOver) := ⟨rfl, rfl, rfl, by decide +kernel, rfl, by decide +kernel, by decide +kernel⟩
abbrev sParts : Stmt := topS 48
theorem scPt : FnScope ["plain", "letters", "bottoms", "steps", "letter", "row"] ["plain"] (defScope sParts) := ⟨rfl, rfl, rfl, by decide +kernel, rfl, by decide +kernel, by decide +kernel⟩
abbrev sCopied : Stmt := topS 49
theorem scCo : FnScope ["parts", "steps", "step", "row"] ["parts"] (defScope sCopied) := ⟨rfl, rfl, rfl, by decide +kernel, rfl, by decide +kernel, by decide +kernel⟩
/-- rows that are built -/
structure ColN (H0 : Hp) (D : Addr) (k : Nat) (ra : Nat → Addr) (n : Nat) (S : Rat → Prop) (G : Hp) : Prop where
  hD : G D = some (.lst ((List.range k).map fun i => V.ref (ra i)))
  s : Same H0 G
  ne : ∀ i, i < k → ra i ≠ D
  fr : ∀ i, i < k → H0 (ra i) = none
  inj : ∀ i, i < k → ∀ j, j < k → ra i = ra j → i = j
  rows : ∀ i, i < k → RowM G (ra i) n S
theorem colN0 {H0 : Hp} {D : Addr} {n : Nat} {S : Rat → Prop} (nD : H0 D = none) : ColN H0 D 0 (fun _ => D) n S (upd H0 D (.lst [])) := ⟨upd_same, Same.upd nD, fun i a => absurd a (by omega), fun i a => absurd a (by omega), fun i a => absurd a (by omega), fun i a => absurd a (by omega)⟩
theorem ColN.step {H0 G G3 : Hp} {D L : Addr} {k n : Nat} {ra : Nat → Addr} {S : Rat → Prop} (c : ColN H0 D k ra n S G) (nD : H0 D = none) (nL : G L = none) (s3 : Same G G3) (r : RowM G3 L n S) :
    G3 D = some (.lst ((List.range k).map fun i => V.ref (ra i))) ∧ ColN H0 D (k + 1) (ext ra k L) n S (upd G3 D (.lst (((List.range k).map fun i => V.ref (ra i)) ++ [.ref L]))) := by
  have hD3 := s3 _ _ c.hD
  have LD : D ≠ L := fun z => by rw [← z, c.hD] at nL; cases nL
  have f : Fr (K1 D) G3 (upd G3 D (.lst (((List.range k).map fun i => V.ref (ra i)) ++ [.ref L]))) := Fr.updL rfl hD3
  have old : ∀ i, i < k → ra i ≠ L := fun i hi z => (c.rows i hi).there (by rw [z]; exact nL)
  refine ⟨hD3, ?_, fun b o hb => ?_, fun i hi => ?_, fun i hi => ?_, fun i hi j hj e => ?_, fun i hi => ?_⟩
  · rw [upd_same, List.range_succ, List.map_append]
    congr 3
    · exact List.map_congr_left fun i hi => by rw [ext_lt ra L (List.mem_range.mp hi)]
    · show [V.ref L] = [V.ref (ext ra k L k)]
      rw [ext_same]
  · rw [upd_ne (ne_of_none hb nD)]
    exact s3 _ _ (c.s _ _ hb)
  · by_cases e : i = k
    · rw [e, ext_same]; exact fun z => LD z.symm
    · rw [ext_lt ra L (by omega)]; exact c.ne i (by omega)
  · by_cases e : i = k
    · rw [e, ext_same]; exact c.s.free nL
    · rw [ext_lt ra L (by omega)]; exact c.fr i (by omega)
  · by_cases e1 : i = k
    · by_cases e2 : j = k
      · omega
      · rw [e1, ext_same, ext_lt ra L (by omega)] at e
        exact absurd e.symm (old j (by omega))
    · by_cases e2 : j = k
      · rw [e2, ext_same, ext_lt ra L (by omega)] at e
        exact absurd e (old i (by omega))
      · rw [ext_lt ra L (by omega), ext_lt ra L (by omega)] at e
        exact c.inj i (by omega) j (by omega) e
  · by_cases e : i = k
    · rw [e, ext_same]
      exact r.fr f fun z => LD z.symm
    · rw [ext_lt ra L (by omega)]
      exact ((c.rows i (by omega)).same s3).fr f fun z => c.ne i (by omega) z
def own (D : Addr) (k : Nat) (ra : Nat → Addr) : Addr → Prop := fun b => b = D ∨ ∃ i, i < k ∧ b = ra i
theorem ColN.tab {H0 G : Hp} {D : Addr} {k n : Nat} {ra : Nat → Addr} {S : Rat → Prop} (c : ColN H0 D k ra n S G) : TabR G (own D k ra) D k n ra S :=
  ⟨c.hD, .inl rfl, fun i hi => .inr ⟨i, hi, rfl⟩, c.ne, c.inj, c.rows, fun b z => by
    rcases z with z | ⟨i, hi, z⟩
    · rw [z, c.hD]; intro y; cases y
    · rw [z]; exact (c.rows i hi).there⟩
theorem ColN.new {H0 G : Hp} {D : Addr} {k n : Nat} {ra : Nat → Addr} {S : Rat → Prop} (c : ColN H0 D k ra n S G) (nD : H0 D = none) : ∀ b, own D k ra b → H0 b = none := fun b z => by
  rcases z with z | ⟨i, hi, z⟩
  · rw [z]; exact nD
  · rw [z]; exact c.fr i hi
/-- tables that are built -/
structure Stl (H0 : Hp) (D : Addr) (k : Nat) (sa : Nat → Addr) (X : Nat → Addr → Prop) (n : Nat) (S : Rat → Prop) (G : Hp) : Prop where
  hD : G D = some (.lst ((List.range k).map fun i => V.ref (sa i)))
  s : Same H0 G
  tt : ∀ x, x < k → ∃ ra, TabR G (X x) (sa x) n n ra S
  fr : ∀ x, x < k → ∀ b, X x b → H0 b = none ∧ b ≠ D
  dj : ∀ x, x < k → ∀ y, y < k → x ≠ y → ∀ b, X x b → ¬ X y b
theorem stl0 {H0 : Hp} {D : Addr} {n : Nat} {S : Rat → Prop} (nD : H0 D = none) : Stl H0 D 0 (fun _ => D) (fun _ _ => False) n S (upd H0 D (.lst [])) := ⟨upd_same, Same.upd nD, fun i a => absurd a (by omega), fun i a => absurd a (by omega), fun i a => absurd a (by omega)⟩
def extX (X : Nat → Addr → Prop) (k : Nat) (Y : Addr → Prop) : Nat → Addr → Prop := fun x => if x = k then Y else X x
theorem Stl.step {H0 G G3 : Hp} {D L : Addr} {k n : Nat} {sa ra : Nat → Addr} {X : Nat → Addr → Prop} {S : Rat → Prop} (c : Stl H0 D k sa X n S G) (nD : H0 D = none) (nL : G L = none) (r : ColN G L n ra n S G3) :
    G3 D = some (.lst ((List.range k).map fun i => V.ref (sa i))) ∧ Stl H0 D (k + 1) (ext sa k L) (extX X k (own L n ra)) n S (upd G3 D (.lst (((List.range k).map fun i => V.ref (sa i)) ++ [.ref L]))) := by
  have s3 := r.s
  have hD3 := s3 _ _ c.hD
  have f : Fr (K1 D) G3 (upd G3 D (.lst (((List.range k).map fun i => V.ref (sa i)) ++ [.ref L]))) := Fr.updL rfl hD3
  have nw := r.new nL
  have nD2 : ∀ b, own L n ra b → b ≠ D := fun b z e => by
    have := nw b z
    rw [e, c.hD] at this
    cases this
  refine ⟨hD3, ?_, fun b o hb => ?_, fun x hx => ?_, fun x hx b hb => ?_, fun x hx y hy ne b hb hb2 => ?_⟩
  · rw [upd_same, List.range_succ, List.map_append]
    congr 3
    · exact List.map_congr_left fun i hi => by rw [ext_lt sa L (List.mem_range.mp hi)]
    · show [V.ref L] = [V.ref (ext sa k L k)]
      rw [ext_same]
  · rw [upd_ne (ne_of_none hb nD)]
    exact s3 _ _ (c.s _ _ hb)
  · by_cases e : x = k
    · unfold extX
      rw [if_pos e, e, ext_same]
      exact ⟨ra, r.tab.fr f fun b z y => nD2 b z y⟩
    · unfold extX
      rw [if_neg e, ext_lt sa L (by omega)]
      obtain ⟨ra', t⟩ := c.tt x (by omega)
      exact ⟨ra', (t.same s3).fr f fun b z y => (c.fr x (by omega) b z).2 y⟩
  · unfold extX at hb
    by_cases e : x = k
    · rw [if_pos e] at hb
      exact ⟨c.s.free (nw b hb), nD2 b hb⟩
    · rw [if_neg e] at hb
      exact c.fr x (by omega) b hb
  · unfold extX at hb hb2
    have key : ∀ y, y < k → ∀ b, own L n ra b → ¬ X y b := fun y hy b h1 h2 => by
      obtain ⟨ra', t⟩ := c.tt y hy
      exact t.al b h2 (nw b h1)
    by_cases e : x = k
    · rw [if_pos e] at hb
      rw [if_neg (by omega)] at hb2
      exact key y (by omega) b hb hb2
    · rw [if_neg e] at hb
      by_cases e2 : y = k
      · rw [if_pos e2] at hb2
        exact key x (by omega) b hb2 hb
      · rw [if_neg e2] at hb2
        exact c.dj x (by omega) y (by omega) ne b hb hb2
/-- the parts, of what was built -/
theorem pm_of {H0 G G1 G2 G3 : Hp} {D ps pe q : Addr} {k n : Nat} {sa : Nat → Addr} {X : Nat → Addr → Prop} {S : Rat → Prop} (c : Stl H0 D k sa X n S G) (nD : H0 D = none) (s1 : Same G G1) (r1 : RowM G1 ps n S) (n1 : G ps = none) (s2 : Same G1 G2) (r2 : RowM G2 pe n S) (n2 : G1 pe = none) (nq : G2 q = none) (s3 : Same G2 G3) (hq : G3 q = some (.lst [.int (k : Int), .ref ps, .ref D, .ref pe])) :
    Pm G3 (fun b => b = q ∨ b = ps ∨ b = D ∨ b = pe ∨ ∃ x, x < k ∧ X x b) q k n S ∧ ∀ b, (b = q ∨ b = ps ∨ b = D ∨ b = pe ∨ ∃ x, x < k ∧ X x b) → H0 b = none := by
  have s03 : Same G G3 := s1.trans (s2.trans s3)
  have tG : ∀ {b}, (∃ x, x < k ∧ X x b) → G b ≠ none := fun ⟨x, hx, z⟩ => by
    obtain ⟨ra, t⟩ := c.tt x hx
    exact t.al _ z
  have tq := hq
  have q0 : ∀ {b}, G2 b ≠ none → q ≠ b := fun h z => h (by rw [← z]; exact nq)
  have up12 : ∀ {b}, G1 b ≠ none → G2 b ≠ none := fun h => (Same.keep (N := Emp) s2).a _ h
  have up01 : ∀ {b}, G b ≠ none → G1 b ≠ none := fun h => (Same.keep (N := Emp) s1).a _ h
  have up23 : ∀ {b}, G2 b ≠ none → G3 b ≠ none := fun h => (Same.keep (N := Emp) s3).a _ h
  have tD : G D ≠ none := by rw [c.hD]; intro z; cases z
  have tps := r1.there
  have tpe := r2.there
  have psD : ps ≠ D := fun z => tD (by rw [← z]; exact n1)
  have peD : pe ≠ D := fun z => up01 tD (by rw [← z]; exact n2)
  have pspe : ps ≠ pe := fun z => tps (by rw [z]; exact n2)
  refine ⟨⟨ps, D, pe, sa, X, hq, s03 _ _ c.hD, r1.same (s2.trans s3), r2.same s3, fun x hx => let ⟨ra, t⟩ := c.tt x hx; ⟨ra, t.same s03⟩, .inl rfl, .inr (.inl rfl), .inr (.inr (.inl rfl)), .inr (.inr (.inr (.inl rfl))), ⟨⟨q0 (up12 tps), q0 (up12 (up01 tD)), q0 tpe⟩, ⟨psD, pspe⟩, fun z => peD z.symm⟩, fun x hx b z => ⟨.inr (.inr (.inr (.inr ⟨x, hx, z⟩))), ?_, ?_, (c.fr x hx b z).2, ?_⟩, c.dj, fun b z => ?_⟩, fun b z => ?_⟩
  · exact fun e => q0 (up12 (up01 (tG ⟨x, hx, z⟩))) e.symm
  · exact fun e => tG ⟨x, hx, z⟩ (by rw [e]; exact n1)
  · exact fun e => up01 (tG ⟨x, hx, z⟩) (by rw [e]; exact n2)
  · rcases z with z | z | z | z | z
    · rw [z, hq]; intro y; cases y
    · rw [z]; exact up23 (up12 tps)
    · rw [z]; exact up23 (up12 (up01 tD))
    · rw [z]; exact up23 tpe
    · exact up23 (up12 (up01 (tG z)))
  · rcases z with z | z | z | z | ⟨x, hx, z⟩
    · rw [z]; exact c.s.free (s1.free (s2.free nq))
    · rw [z]; exact c.s.free n1
    · rw [z]; exact nD
    · rw [z]; exact c.s.free (s1.free n2)
    · exact (c.fr x hx b z).1
end RX

set_option Elab.async false
set_option maxRecDepth 100000
namespace RX
open PySem L2 LX VA VM VN EB
open RQ (Hg Bt)
theorem bots_M : ∀ {xs : List V}, (∀ x ∈ xs, BotV x) → ∃ M : Int, M ≠ 0 ∧ Bt (70 * xs.length + 1) M ∧ ∀ x ∈ xs, ∃ b : Int, x = .int b ∧ b ≠ 0 ∧ b ∣ M
  | [], _ => ⟨1, by decide, show (1 : Int).natAbs < 2 ^ 1 by decide, fun x h => absurd h List.not_mem_nil⟩
  | x :: xs, h => by
    obtain ⟨M, m0, bM, hM⟩ := bots_M (xs := xs) fun y hy => h y (List.mem_cons_of_mem _ hy)
    obtain ⟨b, rfl, b0, bb⟩ := h x List.mem_cons_self
    refine ⟨b * M, Int.mul_ne_zero b0 m0, (bb.mul bM).up (by rw [List.length_cons]; omega), fun y hy => ?_⟩
    rcases List.mem_cons.mp hy with rfl | hy
    · exact ⟨b, rfl, b0, Int.dvd_mul_right _ _⟩
    · obtain ⟨c, e, c0, d⟩ := hM y hy
      exact ⟨c, e, c0, Int.dvd_trans d (Int.dvd_mul_left _ _)⟩
theorem over_ov {z b M : Int} {q : Rat} (b0 : b ≠ 0) (d : b ∣ M) (m0 : M ≠ 0) (bM : Bt 430 M) (bz : Bt 81 z) (e : (z : Rat) = q * (b : Rat)) : Ov M 520 q := by
  obtain ⟨c, hc⟩ := d
  refine ⟨z * c, ?_, (bz.mul (bM.le ?_)).up (by decide)⟩
  · rw [hc, Rat.intCast_mul, Rat.intCast_mul, e]
    grind
  · rw [hc, Int.natAbs_mul]
    exact Nat.le_mul_of_pos_left _ (Int.natAbs_pos.mpr b0)
def spOv : Sp := fun vs H Q _ => ∃ (p : Addr) (n : Nat) (b M : Int), vs = [.ref p, .int b] ∧ IntM 81 H p n ∧ n ≤ 1000 ∧ b ≠ 0 ∧ b ∣ M ∧ M ≠ 0 ∧ Bt 430 M ∧ ∀ (r : Addr) (H' : Hp), Same H H' → H r = none → RowM H' r n (Ov M 520) → Q (.ref r) H'
def spPt : Sp := fun vs H Q _ => ∃ (P : Addr → Prop) (q : Addr) (k n : Nat), vs = [.ref q] ∧ PlM 81 H P q k n ∧ k ≤ 4 ∧ n ≤ 900 ∧ ∀ (r : Addr) (H' : Hp) (M : Int) (O : Addr → Prop), M ≠ 0 → Bt 430 M → Same H H' → (∀ b, O b → H b = none) → Pm H' O r k n (Ov M 520) → Q (.ref r) H'
def spCo : Sp := fun vs H Q _ => ∃ (O : Addr → Prop) (q : Addr) (k n : Nat) (S : Rat → Prop), vs = [.ref q] ∧ Pm H O q k n S ∧ k ≤ 4 ∧ n ≤ 900 ∧ ∀ (r : Addr) (H' : Hp) (O' : Addr → Prop), Same H H' → (∀ b, O' b → H b = none) → Pm H' O' r k n S → Q (.ref r) H'
section
variable {P : Program} {w : World} {K : PySem.W.Frag} {mg : Str → Option Value} {base : Heap}
theorem ok_ov {f fL : Addr} {fd dL : FuncData} (F : Fun K "_law_over" "_law_over" sOver f fd) (cLo : CalN P w K mg base "_law_lowest" 33 ["top", "bottom"] spPairB fL dL) : FnOk P w K mg base CX0 34 f fd ["row", "bottom"] spOv := by
  refine F.ok scOv (fun vs H Q E h => ?_) (fun cdv A outer s H vs Q E hr h => ?_)
  · obtain ⟨p, n, b, M, rfl, _⟩ := h
    rfl
  · obtain ⟨p, n, b, M, rfl, ⟨xs, hx, lx, ex⟩, hn, b0, bd, m0, bM, kk⟩ := h
    have hr33 : Room 33 _ := hr
    refine ⟨_, pss_one (ps_ret (pe_lc (own := [("number", 2)]) (g := gName 2) (tt := tYes) rfl scOv.nd (pi_list (pv 0)) (blkOk_by (N := ["row", "bottom", "number"]) (sc := (defScope sOver)) (by decide +kernel)) (fun _ _ _ _ _ => (pg_name (i := 2) scOv.nd rfl (.inl rfl))) (fun _ _ _ _ _ => pts_nil) (fun _ _ _ _ _ => (pe_call cLo.G hr33 rfl cLo.m cLo.kp cLo.b .nil pass0 (pa_cons (pv 2) (pa_cons (pv 1) pa_nil)))))), ?_⟩
    refine ⟨_, rfl, p, rfl, ⟨_, SqL.of hx⟩, fun D nD => ?_⟩
    refine lc_it (walk_list (K := K) (a := p) (xs := xs)) (fun i G => Bl Emp H D i (Ov M 520) G) (bl0 nD) (fun i G _ b => SqL.of (b.f.get hx id)) ?_ ?_
    · rintro i x G1 G2 hi bl ⟨rfl, hxi⟩
      obtain ⟨z, rfl, bz⟩ := ex x (List.mem_of_getElem? hxi)
      refine ⟨rfl, _, rfl, _, rfl, z, b, rfl, b0, fun r G3 s3 nr hR => ?_⟩
      obtain ⟨q, e1, e2, _, _, _, e⟩ := low_of (n := z) b0
      rw [e1, e2] at hR
      obtain ⟨acc, a1, a2, a3⟩ := bl.step (x := .ref r) nD id (Same.fr s3) ⟨r, q, rfl, hR, over_ov b0 bd m0 bM bz e⟩
      exact ⟨acc, a1, by rw [a2]; exact small1000 (by omega), a3⟩
    · rintro G1 bl
      rw [lx] at bl
      exact kk D G1 bl.f.k.same nD bl.done
theorem ok_pt {f fO : Addr} {fd dO : FuncData} (F : Fun K "_law_parts" "_law_parts" sParts f fd) (T : TxtL mg) (cOv : CalN P w K mg base "_law_over" 34 ["row", "bottom"] spOv fO dO) : FnOk P w K mg base CX0 35 f fd ["plain"] spPt := by
  refine F.ok scPt (fun vs H Q E h => ?_) (fun cdv A outer s H vs Q E hr h => ?_)
  · obtain ⟨P, q, k, n, rfl, _⟩ := h
    rfl
  · obtain ⟨P, q, k, n, rfl, hq, k4, hn, kk⟩ := h
    have hr34 : Room 34 _ := hr
    obtain ⟨ps, pt, pe, pb, h1, p1, p2, p3, i1, ⟨ts, hts, pts, lts, ets⟩, i2, ⟨bs, hbs, lbs, ebs⟩⟩ := hq.ex
    obtain ⟨M, m0, bM, hM⟩ := bots_M ebs
    have bM : Bt 430 M := bM.up (by rw [lbs]; omega)
    have bot : ∀ j, j < k + 2 → ∃ b : Int, bs[j]? = some (.int b) ∧ b ≠ 0 ∧ b ∣ M := fun j hj => by
      have hl : j < bs.length := by omega
      obtain ⟨b, e, b0, d⟩ := hM _ (List.getElem_mem hl)
      exact ⟨b, by rw [List.getElem?_eq_getElem hl, e], b0, d⟩
    refine ⟨_, pss_cons (ps_set (i := 1) scPt.nd rfl (.inl rfl) (pe_ix ix_tup (pv 0) pe_int (fun _ _ => rfl)))
      (pss_cons (ps_set (i := 2) scPt.nd rfl (.inr rfl) (pe_ix ix_tup (pv 0) pe_int (fun _ _ => rfl)))
      (pss_cons (ps_set (i := 3) scPt.nd rfl (.inl rfl) (pe_lst pa_nil))
      (pss_cons (ps_for PassesOwn.never rfl (pi_range1 (by rfl) T.range (pa_cons (pv 1) pa_nil)) (pg_name (i := 4) scPt.nd rfl (.inr rfl))
        (pss_one (ps_expr (pe_bm PySem.F.plainAttrs_list PySem.F.slot_list_append PySem.F.type_list_append mt_append (pv 3) (pa_cons (pe_lc (own := [("row", 5)]) (g := gName 5) (tt := tYes) rfl scPt.nd (pi_list (pe_ix ix_list (pe_ix ix_tup (pv 0) pe_int (fun _ _ => rfl)) (pv 4) (fun _ _ => rfl))) (blkOk_by (N := ["plain", "letters", "bottoms", "steps", "letter", "row"]) (sc := (defScope sParts)) (by decide +kernel)) (fun _ _ _ _ _ => (pg_name (i := 5) scPt.nd rfl (.inl rfl))) (fun _ _ _ _ _ => pts_nil) (fun _ _ _ _ _ => (pe_call cOv.G hr34 rfl cOv.m cOv.kp cOv.b .nil pass0 (pa_cons (pv 5) (pa_cons (pe_ix (show IxR _ (rIxL K) from ix_list) (pv 2) (pe_op op_add pe_int (pv 4)) (fun _ _ => rfl)) pa_nil))))) pa_nil)))))
      (pss_one (ps_ret (pe_lst (pa_cons (pv 1) (pa_cons (pe_call cOv.G hr34 rfl cOv.m cOv.kp cOv.b .nil pass0 (pa_cons (pe_ix ix_tup (pv 0) pe_int (fun _ _ => rfl)) (pa_cons (pe_ix ix_list (pv 2) pe_int (fun _ _ => rfl)) pa_nil))) (pa_cons (pv 3) (pa_cons (pe_call cOv.G hr34 rfl cOv.m cOv.kp cOv.b .nil pass0 (pa_cons (pe_ix ix_tup (pv 0) pe_int (fun _ _ => rfl)) (pa_cons (pe_ix ix_list (pv 2) (pe_op op_add (pv 1) pe_int) (fun _ _ => rfl)) pa_nil))) pa_nil)))))))))), ?_⟩
    refine ⟨_, rfl, q, _, 0, _, rfl, rfl, SqT.of h1, rfl, ?_⟩
    refine ⟨_, rfl, q, _, 4, _, rfl, rfl, SqT.of h1, rfl, ?_⟩
    refine ⟨(by show 0 ≤ sizeLine; decide), fun D nD => ?_⟩
    refine ⟨_, rfl, k, rfl, by omega, by omega, for_range (n := k) (fun x σ G => ∃ o4 sa X, σ = [some (.ref q), some (.int (k : Int)), some (.ref pb), some (.ref D), o4, none] ∧ Stl H D x sa X n (Ov M 520) G) ⟨none, _, _, rfl, stl0 nD⟩ ?_ ?_⟩
    · rintro x σ G hx ⟨o4, sa, X, rfl, st⟩
      have sG := st.s
      have hl : x < ts.length := by omega
      obtain ⟨ta, ys, eta, pta, hta, lys, eys⟩ := ets _ (List.getElem_mem hl)
      obtain ⟨b, hb, b0, bd⟩ := bot (x + 1) (by omega)
      refine ⟨_, rfl, .inl ⟨rfl, _, SqL.of st.hD⟩, _, rfl, q, _, 2, _, rfl, rfl, SqT.of (sG _ _ h1), rfl, _, rfl, pt, ts, _, _, rfl, rfl, SqL.of (sG _ _ hts), at_of (Int.zero_add _) (by rw [List.getElem?_eq_getElem hl, eta]), ta, rfl, ⟨_, SqL.of (sG _ _ hta)⟩, fun L nL => ?_⟩
      refine lc_it (walk_list (K := K) (a := ta) (xs := ys)) (fun i G2 => ∃ ra, ColN G L i ra n (Ov M 520) G2) ⟨_, colN0 nL⟩ (fun i G2 _ b => by obtain ⟨_, c⟩ := b; exact SqL.of (c.s _ _ (sG _ _ hta))) ?_ ?_
      · rintro i y G1 G2 hi ⟨ra, c⟩ ⟨rfl, hyi⟩
        obtain ⟨rb, rfl, prb, irb⟩ := eys y (List.mem_of_getElem? hyi)
        have s2 := sG.trans c.s
        refine ⟨rfl, _, rfl, _, rfl, _, rfl, _, _, rfl, rfl, pb, bs, _, _, rfl, rfl, SqL.of (s2 _ _ hbs), at_of (by show (1 : Int) + (0 + (x : Int)) = ((x + 1 : Nat) : Int); omega) hb, rb, n, b, M, rfl, irb.fr (Same.fr (W := Emp) s2) id, by omega, b0, bd, m0, bM, fun r G3 s3 nr hr3 => ?_⟩
        obtain ⟨a1, a2⟩ := c.step nL nr s3 hr3
        exact ⟨_, a1, by rw [List.length_map, List.length_range]; exact small1000 (by omega), _, a2⟩
      · rintro G2 ⟨ra, c⟩
        rw [lys] at c
        obtain ⟨a1, a2⟩ := st.step nD nL c
        exact ⟨D, _, _, rfl, rfl, a1, by rw [List.length_map, List.length_range]; exact small1000 (by omega), _, _, _, rfl, a2⟩
    · rintro σ G ⟨o4, sa, X, rfl, st⟩
      have sG := st.s
      obtain ⟨b, hb, b0, bd⟩ := bot 0 (by omega)
      obtain ⟨c, hc, c0, cd⟩ := bot (k + 1) (by omega)
      refine ⟨_, rfl, _, rfl, q, _, 1, _, rfl, rfl, SqT.of (sG _ _ h1), rfl, _, rfl, pb, bs, 0, _, rfl, rfl, SqL.of (sG _ _ hbs), at_of rfl hb, ps, n, b, M, rfl, i1.fr (Same.fr (W := Emp) sG) id, by omega, b0, bd, m0, bM, fun r1 G1 s1 nr1 hr1 => ?_⟩
      have s01 := sG.trans s1
      refine ⟨_, rfl, _, rfl, q, _, 3, _, rfl, rfl, SqT.of (s01 _ _ h1), rfl, _, rfl, _, rfl, _, _, rfl, rfl, pb, bs, _, _, rfl, rfl, SqL.of (s01 _ _ hbs), at_of (by show (k : Int) + 1 = ((k + 1 : Nat) : Int); omega) hc, pe, n, c, M, rfl, i2.fr (Same.fr (W := Emp) s01) id, by omega, c0, cd, m0, bM, fun r2 G2 s2 nr2 hr2 => ?_⟩
      refine ⟨(by show 4 ≤ sizeLine; decide), fun r nr => ?_⟩
      have s3 : Same G2 (upd G2 r (.lst [.int (k : Int), .ref r1, .ref D, .ref r2])) := Same.upd nr
      obtain ⟨pm, nw⟩ := pm_of st nD s1 hr1 nr1 s2 hr2 nr2 nr s3 upd_same
      exact kk r _ M _ m0 bM (s01.trans (s2.trans s3)) nw pm
theorem ok_co {f : Addr} {fd : FuncData} (F : Fun K "_law_copied" "_law_copied" sCopied f fd) (T : TxtL mg) (TP : TxtP mg) : FnOk P w K mg base CX0 1 f fd ["parts"] spCo := by
  refine F.ok scCo (fun vs H Q E h => ?_) (fun cdv A outer s H vs Q E hr h => ?_)
  · obtain ⟨O, q, k, n, S, rfl, _⟩ := h
    rfl
  · obtain ⟨O, q, k, n, S, rfl, ⟨ps, pt, pe, sa0, X0, m⟩, k4, hn, kk⟩ := h
    obtain ⟨xs, hxs, lxs, exs⟩ := m.rs.ex
    obtain ⟨es, hes, les, ees⟩ := m.re.ex
    refine ⟨_, pss_cons (ps_set (i := 1) scCo.nd rfl (.inl rfl) (pe_lst pa_nil))
      (pss_cons (ps_for PassesOwn.never rfl (pi_list (pe_ix ix_list (pv 0) pe_int (fun _ _ => rfl))) (pg_name (i := 2) scCo.nd rfl (.inl rfl))
        (pss_one (ps_expr (pe_bm PySem.F.plainAttrs_list PySem.F.slot_list_append PySem.F.type_list_append mt_append (pv 1) (pa_cons (pe_lc (own := [("row", 3)]) (g := gName 3) (tt := tYes) rfl scCo.nd (pi_list (pv 2)) (blkOk_by (N := ["parts", "steps", "step", "row"]) (sc := (defScope sCopied)) (by decide +kernel)) (fun _ _ _ _ _ => (pg_name (i := 3) scCo.nd rfl (.inl rfl))) (fun _ _ _ _ _ => pts_nil) (fun _ _ _ _ _ => (pe_callTy (T := "list") (show CallR _ (.type "list") (rLstO K) from call_listK) (by rfl) TP.list (by decide +kernel) (pa_cons (pv 3) pa_nil)))) pa_nil)))))
      (pss_one (ps_ret (pe_lst (pa_cons (pe_ix ix_list (pv 0) pe_int (fun _ _ => rfl)) (pa_cons (pe_callTy (T := "list") (show CallR _ (.type "list") (rLstO K) from call_listK) (by rfl) TP.list (by decide +kernel) (pa_cons (pe_ix ix_list (pv 0) pe_int (fun _ _ => rfl)) pa_nil)) (pa_cons (pv 1) (pa_cons (pe_callTy (T := "list") (show CallR _ (.type "list") (rLstO K) from call_listK) (by rfl) TP.list (by decide +kernel) (pa_cons (pe_ix ix_list (pv 0) pe_int (fun _ _ => rfl)) pa_nil)) pa_nil)))))))), ?_⟩
    refine ⟨(by show 0 ≤ sizeLine; decide), fun D nD => ?_⟩
    have s0 : Same H (upd H D (.lst [])) := Same.upd nD
    refine ⟨_, rfl, q, _, 2, _, rfl, rfl, SqL.of (s0 _ _ m.hq), rfl, pt, rfl, ⟨_, SqL.of (s0 _ _ m.ht)⟩, for_it (walk_list (K := K) (a := pt) (xs := (List.range k).map fun x => V.ref (sa0 x))) (fun x σ G => ∃ o2 sa X, σ = [some (.ref q), some (.ref D), o2, none] ∧ Stl H D x sa X n S G) ⟨none, _, _, rfl, stl0 nD⟩ (fun i σ G _ h => by obtain ⟨_, _, _, _, st⟩ := h; exact SqL.of (st.s _ _ m.ht)) ?_ ?_⟩
    · rintro x v σ G1 G hx ⟨o2, sa, X, rfl, st⟩ ⟨rfl, hxv⟩
      rw [List.length_map, List.length_range] at hx
      rw [TabR.get hx] at hxv
      obtain rfl := Option.some.inj hxv
      obtain ⟨ra0, t⟩ := m.tt x hx
      have sG := st.s
      have tG := t.same sG
      refine ⟨_, rfl, .inl ⟨rfl, _, SqL.of st.hD⟩, _, rfl, sa0 x, rfl, ⟨_, SqL.of tG.hp⟩, fun L nL => ?_⟩
      refine lc_it (walk_list (K := K) (a := sa0 x) (xs := (List.range n).map fun i => V.ref (ra0 i))) (fun i G2 => ∃ ra, ColN G L i ra n S G2) ⟨_, colN0 nL⟩ (fun i G2 _ b => by obtain ⟨_, c⟩ := b; exact SqL.of (c.s _ _ tG.hp)) ?_ ?_
      · rintro i y G1 G2 hi ⟨ra, c⟩ ⟨rfl, hyi⟩
        rw [List.length_map, List.length_range] at hi
        rw [TabR.get hi] at hyi
        obtain rfl := Option.some.inj hyi
        have row := (tG.rows i hi).same c.s
        obtain ⟨zs, hzs, lzs, ezs⟩ := row.ex
        refine ⟨rfl, _, rfl, ra0 i, zs, rfl, .inl (SqL.of hzs), fun r nr => ?_⟩
        have s3 : Same G2 (upd G2 r (.lst zs)) := Same.upd nr
        obtain ⟨a1, a2⟩ := c.step nL nr s3 (⟨zs, upd_same, lzs, fun z hz => (ezs z hz).same s3⟩ : RowM _ r n S)
        exact ⟨_, a1, by rw [List.length_map, List.length_range]; exact small1000 (by omega), _, a2⟩
      · rintro G2 ⟨ra, c⟩
        rw [List.length_map, List.length_range] at c
        obtain ⟨a1, a2⟩ := st.step nD nL c
        exact ⟨D, _, _, rfl, rfl, a1, by rw [List.length_map, List.length_range]; exact small1000 (by omega), _, _, _, rfl, a2⟩
    · rintro σ G ⟨o2, sa, X, rfl, st⟩
      rw [List.length_map, List.length_range] at st
      have sG := st.s
      refine ⟨_, rfl, q, _, 0, _, rfl, rfl, SqL.of (sG _ _ m.hq), rfl, _, rfl, q, _, 1, _, rfl, rfl, SqL.of (sG _ _ m.hq), rfl, ps, xs, rfl, .inl (SqL.of (sG _ _ hxs)), fun r1 nr1 => ?_⟩
      have s1 : Same G (upd G r1 (.lst xs)) := Same.upd nr1
      have hr1 : RowM (upd G r1 (.lst xs)) r1 n S := ⟨xs, upd_same, lxs, fun z hz => (exs z hz).same (sG.trans s1)⟩
      generalize upd G r1 (.lst xs) = G1 at *
      have s01 := sG.trans s1
      refine ⟨_, rfl, _, rfl, q, _, 3, _, rfl, rfl, SqL.of (s01 _ _ m.hq), rfl, pe, es, rfl, .inl (SqL.of (s01 _ _ hes)), fun r2 nr2 => ?_⟩
      have s2 : Same G1 (upd G1 r2 (.lst es)) := Same.upd nr2
      have hr2 : RowM (upd G1 r2 (.lst es)) r2 n S := ⟨es, upd_same, les, fun z hz => (ees z hz).same (s01.trans s2)⟩
      generalize upd G1 r2 (.lst es) = G2 at *
      refine ⟨(by show 4 ≤ sizeLine; decide), fun r nr => ?_⟩
      have s3 : Same G2 (upd G2 r (.lst [.int (k : Int), .ref r1, .ref D, .ref r2])) := Same.upd nr
      obtain ⟨pm, nw⟩ := pm_of st nD s1 hr1 nr1 s2 hr2 nr2 nr s3 upd_same
      exact kk r _ _ (s01.trans (s2.trans s3)) nw pm
end
end RX

set_option Elab.async false
set_option maxRecDepth 100000
namespace RX
open PySem L2 LX VA VM VN EB
open RQ (Hg Bt)
abbrev sSpoilt : Stmt := topS 65
theorem scSpo : FnScope ["tape", "plain", "size", "row", "steps", "start", "end", "bottoms", "kind", "more", "place", "step"] ["tape", "plain"] (defScope sSpoilt) := ⟨rfl, rfl, rfl, by decide +kernel, rfl, by decide +kernel, by decide +kernel⟩
abbrev outSpo0 : Scope := { kind := .function, names := [(".0", .local), ("step", .local)], isGenerator := false, isCoroutine := false }
theorem at4s {y : Int} (h0 : 0 ≤ y) (h1 : y < 4) : ∃ v : Int, atI [V.int 1, V.int (-1), V.int 2, V.int 7] y = some (.int v) ∧ v.natAbs ≤ 7 := by
  have : y = 0 ∨ y = 1 ∨ y = 2 ∨ y = 3 := by omega
  rcases this with rfl | rfl | rfl | rfl <;> exact ⟨_, rfl, by decide⟩
theorem bt_more {z v : Int} (h : Bt 80 z) (k : v.natAbs ≤ 7) : Bt 81 (z + v) := by
  have h : z.natAbs < 2 ^ 80 := h
  show (z + v).natAbs < 2 ^ 81
  omega
/-- one number of one row is changed -/
theorem StsM.setRow {B : Nat} {H : Hp} {P : Addr → Prop} {pt b0 : Addr} {k n i : Nat} {xs : List V} {z : Int} (h : StsM B H P pt k n) (hk : 0 < k) (hn : 0 < n) (i0 : IntM B H b0 n) (hx : H b0 = some (.lst xs)) (bz : Bt B z) : StsM B (upd H b0 (.lst (xs.set i (.int z)))) P pt k n := by
  obtain ⟨ts, h1, h2, h3, h4⟩ := h
  obtain ⟨ys0, z0, g1, g2, g3, _⟩ := i0.get hn
  rw [hx] at g1
  obtain rfl : xs = ys0 := by injection g1 with g; injection g
  have f : Fr (K1 b0) H (upd H b0 (.lst (xs.set i (.int z)))) := Fr.updL rfl hx
  have refs : ∀ {a : Addr} {ys : List V}, H a = some (.lst ys) → 0 < ys.length → (∀ y ∈ ys, ∃ b, y = .ref b) → a ≠ b0 := fun ha l r e => by
    rw [e, hx] at ha
    injection ha with ha
    injection ha with ha
    subst ha
    obtain ⟨b, eb⟩ := r _ (List.getElem_mem l)
    rw [List.getElem?_eq_getElem l, eb] at g3
    cases g3
  refine ⟨ts, f.get h1 fun e => refs h1 (by omega) (fun y hy => ?_) e, h2, h3, fun x hx2 => ?_⟩
  · obtain ⟨a, _, e, _⟩ := h4 y hy
    exact ⟨a, e⟩
  · obtain ⟨a, ys, e, pa, ha, l, r⟩ := h4 x hx2
    refine ⟨a, ys, e, pa, f.get ha fun e => refs ha (by omega) (fun y hy => let ⟨b, eb, _⟩ := r y hy; ⟨b, eb⟩) e, l, fun y hy => ?_⟩
    obtain ⟨b, eb, pb, ib⟩ := r y hy
    refine ⟨b, eb, pb, ?_⟩
    by_cases e : b = b0
    · rw [e]; exact i0.set hx bz
    · exact ib.fr f fun q => e q
structure Spt (B : Nat) (H G : Hp) (a cl Ds D2 D3 D4 : Addr) (k n : Nat) : Prop where
  fe : FeedAt G a cl
  f : Fr (K1 a) H G
  st : ∃ P1, StsM B G P1 Ds k n ∧ (∀ b, P1 b → H b = none ∧ b ≠ a ∧ b ≠ cl ∧ b ≠ D2 ∧ b ≠ D3 ∧ b ≠ D4) ∧ Alc P1 G
  i2 : IntM B G D2 n
  i3 : IntM B G D3 n
  b4 : BotM G D4 (k + 2)
section
variable {A B : Nat} {H G G' : Hp} {a cl Ds D2 D3 D4 : Addr} {k n : Nat}
theorem Spt.up (s : Spt A H G a cl Ds D2 D3 D4 k n) (l : A ≤ B) : Spt B H G a cl Ds D2 D3 D4 k n := ⟨s.fe, s.f, let ⟨P1, x, y, z⟩ := s.st; ⟨P1, x.up l, y, z⟩, s.i2.up l, s.i3.up l, s.b4⟩
theorem Spt.draw (s : Spt B H G a cl Ds D2 D3 D4 k n) (n2 : D2 ≠ a) (n3 : D3 ≠ a) (n4 : D4 ≠ a) (f : Fr (K1 a) G G') (fe : FeedAt G' a cl) : Spt B H G' a cl Ds D2 D3 D4 k n :=
  ⟨fe, s.f.trans f, let ⟨P1, x, y, z⟩ := s.st; ⟨P1, x.fr f (fun b q e => (y b q).2.1 e) (fun _ q => q), y, z.keep f.k⟩, s.i2.fr f n2, s.i3.fr f n3, s.b4.fr f n4⟩
end
def spSpo : Sp := fun vs H Q _ => ∃ (P : Addr → Prop) (a cl q : Addr) (k n : Nat), vs = [.ref a, .ref q] ∧ FeedAt H a cl ∧ PlM 80 H P q k n ∧ (∀ b, P b → b ≠ a) ∧ 1 ≤ k ∧ k ≤ 4 ∧ n ≤ 900 ∧ ∀ (r : Addr) (H' : Hp) (P' : Addr → Prop), Fr (K1 a) H H' → FeedAt H' a cl → PlM 81 H' P' r k n → Q (.ref r) H'
section
variable {P : Program} {w : World} {K : PySem.W.Frag} {mg : Str → Option Value} {base : Heap}
theorem ok_spo {f fN : Addr} {fd dN : FuncData} (F : Fun K "_law_spoilt" "_law_spoilt" sSpoilt f fd) (T : TxtL mg) (TP : TxtP mg) (cNx : CalN P w K mg base "_law_next" 1 ["tape", "limit"] spDraw fN dN) : FnOk P w K mg base CX0 2 f fd ["tape", "plain"] spSpo := by
  refine F.ok scSpo (fun vs H Q E h => ?_) (fun cdv A outer s H vs Q E hr h => ?_)
  · obtain ⟨P, a, cl, q, k, n, rfl, _⟩ := h
    rfl
  · obtain ⟨P, a, cl, q, k, n, rfl, hF, hq, hPa, k1, k4, hn, kk⟩ := h
    have hr1 : Room 1 _ := hr
    obtain ⟨ps, pt, pe, pb, h1, p1, p2, p3, i1, ⟨ts, hts, pts, lts, ets⟩, i2, ⟨bs, hbs, lbs, ebs⟩⟩ := hq.ex
    obtain ⟨xs, hxs, lxs, exs⟩ := i1
    obtain ⟨es, hes, les, ees⟩ := i2
    refine ⟨_, pss_cons (ps_set (i := 2) scSpo.nd rfl (.inl rfl) (pe_callB call_len_seq (by rfl) T.len PySem.boot_len (pa_cons (pe_ix ix_tup (pv 1) pe_int (fun _ _ => rfl)) pa_nil)))
      (pss_cons (ps_setLc (i := 4) (own := [("step", 11)]) (g := gName 11) (tt := tYes) rfl scSpo.nd rfl rfl (sw_true rfl rfl rfl (by decide +kernel)) (pi_list (pe_ix ix_tup (pv 1) pe_int (fun _ _ => rfl))) (blkOk_by (N := ["tape", "plain", "size", "row", "steps", "start", "end", "bottoms", "kind", "more", "place", "step"]) (sc := (defScope sSpoilt)) (by decide +kernel)) (fun _ _ _ _ _ => (pg_name (i := 11) scSpo.nd rfl (.inl rfl))) (fun _ _ _ _ _ => pts_nil) (fun _ _ _ _ _ => (pe_lc (own := [("row", 3)]) (g := gName 3) (tt := tYes) rfl scSpo.nd (pi_listK (K := K) rfl (pv 11)) (blkOk_by (N := ["tape", "plain", "size", "row", "steps", "start", "end", "bottoms", "kind", "more", "place", "step"]) (sc := outSpo0) (by decide +kernel)) (fun _ _ _ _ _ => (pg_name (i := 3) scSpo.nd rfl (.inl rfl))) (fun _ _ _ _ _ => pts_nil) (fun _ _ _ _ _ => (pe_callTy (T := "list") (show CallR _ (.type "list") (rLstO K) from call_listK) (by rfl) TP.list (by decide +kernel) (pa_cons (pv 3) pa_nil))))))
      (pss_cons (ps_set (i := 5) scSpo.nd rfl (.inl rfl) (pe_callTy (T := "list") (show CallR _ (.type "list") (rLstO K) from call_listK) (by rfl) TP.list (by decide +kernel) (pa_cons (pe_ix ix_tup (pv 1) pe_int (fun _ _ => rfl)) pa_nil)))
      (pss_cons (ps_set (i := 6) scSpo.nd rfl (.inl rfl) (pe_callTy (T := "list") (show CallR _ (.type "list") (rLstO K) from call_listK) (by rfl) TP.list (by decide +kernel) (pa_cons (pe_ix ix_tup (pv 1) pe_int (fun _ _ => rfl)) pa_nil)))
      (pss_cons (ps_set (i := 7) scSpo.nd rfl (.inl rfl) (pe_callTy (T := "list") (show CallR _ (.type "list") (rLstO K) from call_listK) (by rfl) TP.list (by decide +kernel) (pa_cons (pe_ix ix_tup (pv 1) pe_int (fun _ _ => rfl)) pa_nil)))
      (pss_cons (ps_set (i := 8) scSpo.nd rfl (.inl rfl) (pe_call cNx.G hr1 rfl cNx.m cNx.kp cNx.b .nil pass0 (pa_cons (pv 0) (pa_cons pe_int pa_nil))))
      (pss_cons (ps_set (i := 9) scSpo.nd rfl (.inl rfl) (pe_ix ix_list (pe_lst (pa_cons pe_int (pa_cons (pe_un un_neg pe_int) (pa_cons pe_int (pa_cons pe_int pa_nil))))) (pe_call cNx.G hr1 rfl cNx.m cNx.kp cNx.b .nil pass0 (pa_cons (pv 0) (pa_cons pe_int pa_nil))) (fun _ _ => rfl)))
      (C8.pss_cut (ps_if (PW.pt (pw_and (pt_cmpR op_eq (pv 8) pe_int (nomark _)) (pw_and1 (pt_cmpR op_gt (pv 2) pe_int (nomark _)))))
        (pss_cons (ps_set (i := 10) scSpo.nd rfl (.inl rfl) (pe_call cNx.G hr1 rfl cNx.m cNx.kp cNx.b .nil pass0 (pa_cons (pv 0) (pa_cons (pv 2) pa_nil))))
        (pss_one (ps_asg (pe_op op_add (pe_ix ix_list (pv 5) (pv 10) (fun _ _ => rfl)) (pv 9)) (pg_sub (pv 5) (pv 10) set_list))))
        pss_nil)
      (C8.pss_cut (ps_if (PW.pt (pw_and (pt_cmpR op_eq (pv 8) pe_int (nomark _)) (pw_and1 (pt_cmpR op_gt (pv 2) pe_int (nomark _)))))
        (pss_cons (ps_set (i := 10) scSpo.nd rfl (.inl rfl) (pe_call cNx.G hr1 rfl cNx.m cNx.kp cNx.b .nil pass0 (pa_cons (pv 0) (pa_cons (pv 2) pa_nil))))
        (pss_one (ps_asg (pe_op op_add (pe_ix ix_list (pv 6) (pv 10) (fun _ _ => rfl)) (pv 9)) (pg_sub (pv 6) (pv 10) set_list))))
        pss_nil)
      (C8.pss_cut (ps_if (PW.pt (pw_and (pt_cmpR op_eq (pv 8) pe_int (nomark _)) (pw_and1 (pt_cmpR op_gt (pv 2) pe_int (nomark _)))))
        (pss_cons (ps_set (i := 3) scSpo.nd rfl (.inl rfl) (pe_ix ix_list (pe_ix ix_list (pv 4) (pe_call cNx.G hr1 rfl cNx.m cNx.kp cNx.b .nil pass0 (pa_cons (pv 0) (pa_cons (pe_ix ix_tup (pv 1) pe_int (fun _ _ => rfl)) pa_nil))) (fun _ _ => rfl)) (pe_call cNx.G hr1 rfl cNx.m cNx.kp cNx.b .nil pass0 (pa_cons (pv 0) (pa_cons (pv 2) pa_nil))) (fun _ _ => rfl)))
        (pss_cons (ps_set (i := 10) scSpo.nd rfl (.inl rfl) (pe_call cNx.G hr1 rfl cNx.m cNx.kp cNx.b .nil pass0 (pa_cons (pv 0) (pa_cons (pv 2) pa_nil))))
        (pss_one (ps_asg (pe_op op_add (pe_ix ix_list (pv 3) (pv 10) (fun _ _ => rfl)) (pv 9)) (pg_sub (pv 3) (pv 10) set_list)))))
        pss_nil)
      (C8.pss_cut (ps_if (PW.pt (pw_and (pt_cmpR op_eq (pv 8) pe_int (nomark _)) (pw_and1 (pt_cmpR op_gt (pv 2) pe_int (nomark _)))))
        (pss_cons (ps_set (i := 3) scSpo.nd rfl (.inl rfl) (pe_ix ix_list (pe_ix ix_list (pv 4) pe_int (fun _ _ => rfl)) (pe_op op_sub (pv 2) pe_int) (fun _ _ => rfl)))
        (pss_one (ps_asg (pe_op op_add (pe_ix ix_list (pv 3) pe_int (fun _ _ => rfl)) (pv 9)) (pg_sub (pv 3) pe_int set_list))))
        pss_nil)
      (C8.pss_cut (ps_if (pt_cmpR op_eq (pv 8) pe_int (nomark _))
        (pss_one (ps_set (i := 4) scSpo.nd rfl (.inl rfl) (pe_revL (pv 4))))
        pss_nil)
      (C8.pss_cut (ps_if (pt_cmpR op_eq (pv 8) pe_int (nomark _))
        (pss_one (ps_asg pe_int (pg_sub (pv 7) (pe_call cNx.G hr1 rfl cNx.m cNx.kp cNx.b .nil pass0 (pa_cons (pv 0) (pa_cons (pe_op op_add (pe_ix ix_tup (pv 1) pe_int (fun _ _ => rfl)) pe_int) pa_nil))) set_list)))
        pss_nil)
      (pss_one (ps_ret (pe_tup (pa_cons (pe_ix ix_tup (pv 1) pe_int (fun _ _ => rfl)) (pa_cons (pv 5) (pa_cons (pv 4) (pa_cons (pv 6) (pa_cons (pv 7) pa_nil)))))))))))))))))))), ?_⟩
    refine ⟨_, rfl, q, _, 1, _, rfl, rfl, SqT.of h1, rfl, ps, xs, rfl, .inl (SqL.of hxs), ?_⟩
    rw [lxs]
    refine ⟨_, rfl, q, _, 2, _, rfl, rfl, SqT.of h1, rfl, pt, rfl, ⟨_, SqL.of hts⟩, fun Ds nDs => ?_⟩
    have st1 : ∀ (D : Addr) (G G' : Hp) (y : V), StpM 80 G (fun b => New H G b ∧ b ≠ D) n y → Fr (And1 Emp D) G G' → StpM 80 G' (fun b => New H G' b ∧ b ≠ D) n y := fun D G G' y h f => h.fr f (fun b z y => y.elim id z.2) fun b z => ⟨z.1.up2 f, z.2⟩
    refine lc_it (walk_list (K := K) (a := pt) (xs := ts)) (fun i G => Ls Emp H Ds i (fun G y => StpM 80 G (fun b => New H G b ∧ b ≠ Ds) n y) G) (ls0 nDs) (fun i G _ b => SqL.of (b.f.get hts id)) ?_ ?_
    · rintro i x G G1 hi ls ⟨rfl, hx⟩
      obtain ⟨ta, ys, rfl, pta, hta, lys, eys⟩ := ets x (List.mem_of_getElem? hx)
      have sG : Same H G1 := ls.f.k.same
      refine ⟨rfl, _, rfl, ta, rfl, ⟨_, SqL.of (sG _ _ hta)⟩, fun L nL => ?_⟩
      have st2 : ∀ (G G' : Hp) (y : V), (∃ b, y = .ref b ∧ b ≠ L ∧ b ≠ Ds ∧ H b = none ∧ IntM 80 G b n) → Fr (And1 Emp L) G G' → ∃ b, y = .ref b ∧ b ≠ L ∧ b ≠ Ds ∧ H b = none ∧ IntM 80 G' b n := fun G G' y h f => by
        obtain ⟨b, e, n1, n2, nb, i⟩ := h
        exact ⟨b, e, n1, n2, nb, i.fr f fun z => z.elim id n1⟩
      obtain ⟨acc0, hacc0, _⟩ := ls.xs
      have LD : L ≠ Ds := fun z => by rw [← z, nL] at hacc0; cases hacc0
      refine lc_it (walk_list (K := K) (a := ta) (xs := ys)) (fun j G2 => Ls Emp G1 L j (fun G y => ∃ b, y = .ref b ∧ b ≠ L ∧ b ≠ Ds ∧ H b = none ∧ IntM 80 G b n) G2) (ls0 nL) (fun i G2 _ b => SqL.of (b.f.get (sG _ _ hta) id)) ?_ ?_
      · rintro j y G2 G3 hj b ⟨rfl, hy⟩
        obtain ⟨rb, rfl, prb, zs, hzs, lzs, ezs⟩ := eys y (List.mem_of_getElem? hy)
        have s3 := sG.trans b.f.k.same
        refine ⟨rfl, _, rfl, rb, zs, rfl, .inl (SqL.of (s3 _ _ hzs)), fun r nr => ?_⟩
        obtain ⟨acc1, hacc1, _⟩ := b.xs
        have rL : r ≠ L := fun z => by rw [← z, nr] at hacc1; cases hacc1
        have rD : r ≠ Ds := fun z => by rw [z, b.f.get hacc0 id] at nr; cases nr
        obtain ⟨acc, a1, a2, a3⟩ := b.step (x := .ref r) nL id st2 (Same.fr (Same.upd (o := .lst zs) nr)) ⟨r, rfl, rL, rD, s3.free nr, zs, upd_same, lzs, ezs⟩
        exact ⟨acc, a1, by rw [a2]; exact small1000 (by omega), a3⟩
      · rintro G2 b
        rw [lys] at b
        obtain ⟨rows, hrows, lrows, erows⟩ := b.xs
        have nLH := sG.free nL
        obtain ⟨acc, a1, a2, a3⟩ := ls.step (x := .ref L) nDs id (st1 Ds) b.f ⟨L, rows, rfl, ⟨⟨nLH, by rw [hrows]; intro z; cases z⟩, LD⟩, hrows, lrows, fun y hy => by
          obtain ⟨c, e, _, cD, nb, ic⟩ := erows y hy
          exact ⟨c, e, ⟨⟨nb, ic.there⟩, cD⟩, ic⟩⟩
        exact ⟨acc, a1, by rw [a2]; exact small1000 (by omega), a3⟩
    rintro G1 b1
    rw [lts] at b1
    have s1 : Same H G1 := b1.f.k.same
    have hT : StsM 80 G1 (New H G1) Ds k n := by
      obtain ⟨ts, h1, h2, h3⟩ := b1.xs
      exact ⟨ts, h1, ⟨nDs, by rw [h1]; intro z; cases z⟩, h2, fun x hx => (h3 x hx).fr (W := Emp) Fr.refl (fun _ _ => id) fun b z => z.1⟩
    -- start, end, bottoms
    refine ⟨_, rfl, q, _, 1, _, rfl, rfl, SqT.of (s1 _ _ h1), rfl, ps, xs, rfl, .inl (SqL.of (s1 _ _ hxs)), fun D2 nD2 => ?_⟩
    have s2 : Same G1 (upd G1 D2 (.lst xs)) := Same.upd nD2
    have j2 : IntM 80 (upd G1 D2 (.lst xs)) D2 n := ⟨xs, upd_same, lxs, exs⟩
    generalize upd G1 D2 (.lst xs) = G2 at *
    have s02 := s1.trans s2
    refine ⟨_, rfl, q, _, 3, _, rfl, rfl, SqT.of (s02 _ _ h1), rfl, pe, es, rfl, .inl (SqL.of (s02 _ _ hes)), fun D3 nD3 => ?_⟩
    have s3 : Same G2 (upd G2 D3 (.lst es)) := Same.upd nD3
    have j3 : IntM 80 (upd G2 D3 (.lst es)) D3 n := ⟨es, upd_same, les, ees⟩
    generalize upd G2 D3 (.lst es) = G3 at *
    have s03 := s02.trans s3
    refine ⟨_, rfl, q, _, 4, _, rfl, rfl, SqT.of (s03 _ _ h1), rfl, pb, bs, rfl, .inl (SqL.of (s03 _ _ hbs)), fun D4 nD4 => ?_⟩
    have s4 : Same G3 (upd G3 D4 (.lst bs)) := Same.upd nD4
    have j4 : BotM (upd G3 D4 (.lst bs)) D4 (k + 2) := ⟨bs, upd_same, lbs, ebs⟩
    generalize upd G3 D4 (.lst bs) = G4 at *
    have s04 := s03.trans s4
    have f4 := hF.same s04
    have D2a := ((hF.same s1).ne_new nD2)
    have D3a := ((hF.same s02).ne_new nD3)
    have D4a := ((hF.same s03).ne_new nD4)
    have D32 : D3 ≠ D2 := fun z => j2.there (by rw [← z]; exact nD3)
    have D42 : D4 ≠ D2 := fun z => (j2.fr (Same.fr (W := Emp) s3) id).there (by rw [← z]; exact nD4)
    have D43 : D4 ≠ D3 := fun z => j3.there (by rw [← z]; exact nD4)
    have n2H := s1.free nD2
    have n3H := s02.free nD3
    have n4H := s03.free nD4
    have sp4 : Spt 80 H G4 a cl Ds D2 D3 D4 k n := ⟨f4, Same.fr s04, ⟨New H G1, hT.fr (Same.fr (W := Emp) (s2.trans (s3.trans s4))) (fun _ _ => id) fun _ z => z, fun b z => ⟨z.1, (fun e => hF.there (by rw [← e]; exact z.1)), (fun e => by obtain ⟨_, h⟩ := hF.lst2; rw [← e, z.1] at h; cases h), (fun e => z.2 (by rw [e]; exact nD2)), (fun e => z.2 (by rw [e]; exact s2.free nD3)), fun e => z.2 (by rw [e]; exact s2.free (s3.free nD4))⟩, (new_al (H := H) (G := G1)).keep (Same.keep (N := Emp) (s2.trans (s3.trans s4)))⟩, j2.fr (Same.fr (W := Emp) (s3.trans s4)) id, j3.fr (Same.fr (W := Emp) s4) id, j4⟩
    refine ⟨_, rfl, a, cl, 6, rfl, f4, by decide, by decide, fun kd G5 _ _ f5 b5 => ?_⟩
    have sp5 := sp4.draw D2a.1 D3a.1 D4a.1 (Fr.but b5 f4 f5) f5
    refine ⟨_, rfl, (by show 4 ≤ sizeLine; decide), fun l nl => ?_⟩
    have s6 : Same G5 (upd G5 l (.lst [.int 1, .int (-1), .int 2, .int 7])) := Same.upd nl
    have hl : (upd G5 l (.lst [.int 1, .int (-1), .int 2, .int 7])) l = some (.lst [.int 1, .int (-1), .int 2, .int 7]) := upd_same
    generalize upd G5 l (.lst [.int 1, .int (-1), .int 2, .int 7]) = G6 at *
    refine ⟨_, rfl, a, cl, 4, rfl, f5.same s6, by decide, by decide, fun y G7 y0 y1 f7 b7 => ?_⟩
    obtain ⟨mo, hmo, bmo⟩ := at4s y0 y1
    have g7 := Fr.but b7 (f5.same s6) f7
    refine ⟨l, _, _, _, rfl, rfl, SqL.of (g7.get hl fun z => (f5.ne_new nl).1 z), hmo, ?_⟩
    have sp7 := sp5.draw D2a.1 D3a.1 D4a.1 ((Same.fr s6).trans g7) f7
    -- one deed at most
    have le : ∀ j : Int, (if kd < j then 81 else 80) ≤ (if kd < j + 1 then 81 else 80) := fun j => by
      by_cases e : kd < j
      · rw [if_pos e, if_pos (by omega)]; exact Nat.le_refl _
      · rw [if_neg e]
        split <;> omega
    have b80 : ∀ {j : Int}, decide (V.int kd = V.int j) = true → (if kd < j then 81 else 80) = 80 ∧ (if kd < j + 1 then 81 else 80) = 81 := fun {j} e => by
      have e := of_decide_eq_true e
      injection e with e
      exact ⟨if_neg (by omega), if_pos (by omega)⟩
    have W2 : ∀ {G : Hp} {xs : List V} {z : Int} {i : Nat} {Ds : Addr}, Spt 81 H G a cl Ds D2 D3 D4 k n → G D2 = some (.lst xs) → Bt 81 z → Spt 81 H (upd G D2 (.lst (xs.set i (.int z)))) a cl Ds D2 D3 D4 k n := fun {G xs z i Ds} sp hx bz => by
      have fu : Fr (K1 D2) G (upd G D2 (.lst (xs.set i (.int z)))) := Fr.updL rfl hx
      obtain ⟨P1, x1, x2, x3⟩ := sp.st
      exact ⟨sp.fe.other D2a.1 D2a.2, Fr.dropS (W := fun b => K1 a b ∨ b = D2) ((sp.f.more fun _ z => .inl z).trans (fu.more fun _ z => .inr z)) fun b z => z.imp id fun e => by rw [e]; exact n2H, ⟨P1, x1.fr fu (fun b q e => (x2 b q).2.2.2.1 e) fun _ q => q, x2, x3.keep fu.k⟩, sp.i2.set hx bz, sp.i3.fr fu fun e => D32 e, sp.b4.fr fu fun e => D42 e⟩
    have W3 : ∀ {G : Hp} {xs : List V} {z : Int} {i : Nat} {Ds : Addr}, Spt 81 H G a cl Ds D2 D3 D4 k n → G D3 = some (.lst xs) → Bt 81 z → Spt 81 H (upd G D3 (.lst (xs.set i (.int z)))) a cl Ds D2 D3 D4 k n := fun {G xs z i Ds} sp hx bz => by
      have fu : Fr (K1 D3) G (upd G D3 (.lst (xs.set i (.int z)))) := Fr.updL rfl hx
      obtain ⟨P1, x1, x2, x3⟩ := sp.st
      exact ⟨sp.fe.other D3a.1 D3a.2, Fr.dropS (W := fun b => K1 a b ∨ b = D3) ((sp.f.more fun _ z => .inl z).trans (fu.more fun _ z => .inr z)) fun b z => z.imp id fun e => by rw [e]; exact n3H, ⟨P1, x1.fr fu (fun b q e => (x2 b q).2.2.2.2.1 e) fun _ q => q, x2, x3.keep fu.k⟩, sp.i2.fr fu fun e => D32 e.symm, sp.i3.set hx bz, sp.b4.fr fu fun e => D43 e⟩
    have WR : ∀ {G : Hp} {xs : List V} {z : Int} {i : Nat} {Ds b0 : Addr} {P1 : Addr → Prop}, Spt 81 H G a cl Ds D2 D3 D4 k n → 0 < n → StsM 81 G P1 Ds k n → (∀ b, P1 b → H b = none ∧ b ≠ a ∧ b ≠ cl ∧ b ≠ D2 ∧ b ≠ D3 ∧ b ≠ D4) → Alc P1 G → P1 b0 → IntM 81 G b0 n → G b0 = some (.lst xs) → Bt 81 z → Spt 81 H (upd G b0 (.lst (xs.set i (.int z)))) a cl Ds D2 D3 D4 k n := fun {G xs z i Ds b0 P1} sp np x1 x2 x3 pb ib hx bz => by
      have fu : Fr (K1 b0) G (upd G b0 (.lst (xs.set i (.int z)))) := Fr.updL rfl hx
      obtain ⟨q1, q2, q3, q4, q5, q6⟩ := x2 b0 pb
      exact ⟨sp.fe.other q2 q3, Fr.dropS (W := fun b => K1 a b ∨ b = b0) ((sp.f.more fun _ z => .inl z).trans (fu.more fun _ z => .inr z)) fun b z => z.imp id fun e => by rw [e]; exact q1, ⟨P1, x1.setRow (by omega) np ib hx bz, x2, x3.keep fu.k⟩, sp.i2.fr fu fun e => q4 e.symm, sp.i3.fr fu fun e => q5 e.symm, sp.b4.fr fu fun e => q6 e.symm⟩
    have sp7 : Spt (if kd < 0 then 81 else 80) H G7 a cl Ds D2 D3 D4 k n := by rw [if_neg (by omega)]; exact sp7
    refine ⟨fun σ' G => ∃ o3 o10, σ' = [some (.ref a), some (.ref q), some (.int (n : Int)), o3, some (.ref Ds), some (.ref D2), some (.ref D3), some (.ref D4), some (.int kd), some (.int mo), o10, none] ∧ Spt (if kd < 1 then 81 else 80) H G a cl Ds D2 D3 D4 k n, ?_, ?_⟩
    · refine ⟨_, rfl, rfl, _, rfl, ite2 (fun e => ?_) (fun _ => ⟨none, none, rfl, sp7.up (le 0)⟩)⟩
      refine ⟨_, rfl, _, _, rfl, rfl, _, rfl, ite2 (fun e0 => ?_) (fun _ => ⟨none, none, rfl, sp7.up (le 0)⟩)⟩
      have np : 0 < n := by have := of_decide_eq_true e0; omega
      obtain ⟨e1, e2⟩ := b80 e
      rw [e1] at sp7
      refine ⟨_, rfl, _, rfl, a, cl, n, rfl, f7, by omega, by omega, fun i G8 i0 i1 f8 b8 => ?_⟩
      have sp8 := sp7.draw D2a.1 D3a.1 D4a.1 (Fr.but b8 f7 f8) f8
      obtain ⟨i, rfl⟩ : ∃ i' : Nat, i = (i' : Int) := ⟨i.toNat, by omega⟩
      obtain ⟨ys, z, hy, ly, hz, bz⟩ := sp8.i2.get (i := i) (by omega)
      refine ⟨_, rfl, _, rfl, D2, ys, _, _, rfl, rfl, SqL.of hy, at_of rfl hz, _, rfl, _, _, rfl, rfl, _, rfl, _, rfl, D2, ys, (i : Int), i, rfl, rfl, hy, ixN_at rfl (by omega), ?_⟩
      exact ⟨_, _, rfl, by
        have := W2 (i := i) (sp8.up (B := 81) (by decide)) hy (bt_more bz bmo)
        rw [show (if kd < 1 then 81 else 80) = 81 from e2]
        exact this⟩
    rintro σ' G8 ⟨o3, o10, rfl, sp8⟩
    refine ⟨fun σ' G => ∃ o3 o10, σ' = [some (.ref a), some (.ref q), some (.int (n : Int)), o3, some (.ref Ds), some (.ref D2), some (.ref D3), some (.ref D4), some (.int kd), some (.int mo), o10, none] ∧ Spt (if kd < 2 then 81 else 80) H G a cl Ds D2 D3 D4 k n, ?_, ?_⟩
    · refine ⟨_, rfl, rfl, _, rfl, ite2 (fun e => ?_) (fun _ => ⟨o3, o10, rfl, sp8.up (le 1)⟩)⟩
      refine ⟨_, rfl, _, _, rfl, rfl, _, rfl, ite2 (fun e0 => ?_) (fun _ => ⟨o3, o10, rfl, sp8.up (le 1)⟩)⟩
      have np : 0 < n := by have := of_decide_eq_true e0; omega
      obtain ⟨e1, e2⟩ := b80 e
      rw [e1] at sp8
      refine ⟨_, rfl, _, rfl, a, cl, n, rfl, sp8.fe, by omega, by omega, fun i G9 i0 i1 f9 b9 => ?_⟩
      have sp9 := sp8.draw D2a.1 D3a.1 D4a.1 (Fr.but b9 sp8.fe f9) f9
      obtain ⟨i, rfl⟩ : ∃ i' : Nat, i = (i' : Int) := ⟨i.toNat, by omega⟩
      obtain ⟨ys, z, hy, ly, hz, bz⟩ := sp9.i3.get (i := i) (by omega)
      refine ⟨_, rfl, _, rfl, D3, ys, _, _, rfl, rfl, SqL.of hy, at_of rfl hz, _, rfl, _, _, rfl, rfl, _, rfl, _, rfl, D3, ys, (i : Int), i, rfl, rfl, hy, ixN_at rfl (by omega), ?_⟩
      exact ⟨_, _, rfl, by
        have := W3 (i := i) (sp9.up (B := 81) (by decide)) hy (bt_more bz bmo)
        rw [show (if kd < 2 then 81 else 80) = 81 from e2]
        exact this⟩
    rintro σ' G9 ⟨o3, o10, rfl, sp9⟩
    refine ⟨fun σ' G => ∃ o3 o10, σ' = [some (.ref a), some (.ref q), some (.int (n : Int)), o3, some (.ref Ds), some (.ref D2), some (.ref D3), some (.ref D4), some (.int kd), some (.int mo), o10, none] ∧ Spt (if kd < 3 then 81 else 80) H G a cl Ds D2 D3 D4 k n, ?_, ?_⟩
    · refine ⟨_, rfl, rfl, _, rfl, ite2 (fun e => ?_) (fun _ => ⟨o3, o10, rfl, sp9.up (le 2)⟩)⟩
      refine ⟨_, rfl, _, _, rfl, rfl, _, rfl, ite2 (fun e0 => ?_) (fun _ => ⟨o3, o10, rfl, sp9.up (le 2)⟩)⟩
      have np : 0 < n := by have := of_decide_eq_true e0; omega
      obtain ⟨e1, e2⟩ := b80 e
      rw [e1] at sp9
      have hqG : G9 q = some (.tup [.int (k : Int), .ref ps, .ref pt, .ref pe, .ref pb]) := sp9.f.t _ _ h1
      refine ⟨_, rfl, _, rfl, _, rfl, q, _, 0, _, rfl, rfl, SqT.of hqG, rfl, a, cl, k, rfl, sp9.fe, by omega, by omega, fun x G10 x0 x1 f10 b10 => ?_⟩
      have sp10 := sp9.draw D2a.1 D3a.1 D4a.1 (Fr.but b10 sp9.fe f10) f10
      obtain ⟨x, rfl⟩ : ∃ i' : Nat, x = (i' : Int) := ⟨x.toNat, by omega⟩
      obtain ⟨P1, st10, dP, aP⟩ := sp10.st
      obtain ⟨us, hus, pus, lus, eus⟩ := st10
      have hxl : x < us.length := by omega
      obtain ⟨ta, ys, eta, pta, hta, lys, eys⟩ := eus _ (List.getElem_mem hxl)
      refine ⟨Ds, us, _, _, rfl, rfl, SqL.of hus, at_of rfl (by rw [List.getElem?_eq_getElem hxl, eta]), ?_⟩
      refine ⟨_, rfl, _, rfl, a, cl, n, rfl, f10, by omega, by omega, fun i G11 i0 i1 f11 b11 => ?_⟩
      have g11 := Fr.but b11 f10 f11
      have sp11 := sp10.draw D2a.1 D3a.1 D4a.1 g11 f11
      obtain ⟨i, rfl⟩ : ∃ i' : Nat, i = (i' : Int) := ⟨i.toNat, by omega⟩
      have hil : i < ys.length := by omega
      obtain ⟨rb, erb, prb, irb⟩ := eys _ (List.getElem_mem hil)
      refine ⟨ta, ys, _, _, rfl, rfl, SqL.of (g11.get hta (dP _ pta).2.1), at_of rfl (by rw [List.getElem?_eq_getElem hil, erb]), ?_⟩
      refine ⟨_, rfl, _, rfl, a, cl, n, rfl, f11, by omega, by omega, fun j G12 j0 j1 f12 b12 => ?_⟩
      have g12 := Fr.but b12 f11 f12
      have sp12 := sp11.draw D2a.1 D3a.1 D4a.1 g12 f12
      obtain ⟨j, rfl⟩ : ∃ i' : Nat, j = (i' : Int) := ⟨j.toNat, by omega⟩
      have g1012 := g11.trans g12
      have irb12 := irb.fr g1012 (dP _ prb).2.1
      have st12 : StsM 80 G12 P1 Ds k n := StsM.fr (⟨us, hus, pus, lus, eus⟩ : StsM 80 G10 P1 Ds k n) g1012 (fun b q e => (dP b q).2.1 e) fun _ q => q
      obtain ⟨zs, z, hz1, lz, hz, bz⟩ := irb12.get (i := j) (by omega)
      refine ⟨_, rfl, _, rfl, rb, zs, _, _, rfl, rfl, SqL.of hz1, at_of rfl hz, _, rfl, _, _, rfl, rfl, _, rfl, _, rfl, rb, zs, (j : Int), j, rfl, rfl, hz1, ixN_at rfl (by omega), ?_⟩
      exact ⟨_, _, rfl, by
        have := WR (i := j) (sp12.up (B := 81) (by decide)) np (st12.up (by decide)) dP (aP.keep g1012.k) prb (irb12.up (by decide)) hz1 (bt_more bz bmo)
        rw [show (if kd < 3 then 81 else 80) = 81 from e2]
        exact this⟩
    rintro σ' G10 ⟨o3, o10, rfl, sp10⟩
    refine ⟨fun σ' G => ∃ o3 o10, σ' = [some (.ref a), some (.ref q), some (.int (n : Int)), o3, some (.ref Ds), some (.ref D2), some (.ref D3), some (.ref D4), some (.int kd), some (.int mo), o10, none] ∧ Spt (if kd < 4 then 81 else 80) H G a cl Ds D2 D3 D4 k n, ?_, ?_⟩
    · refine ⟨_, rfl, rfl, _, rfl, ite2 (fun e => ?_) (fun _ => ⟨o3, o10, rfl, sp10.up (le 3)⟩)⟩
      refine ⟨_, rfl, _, _, rfl, rfl, _, rfl, ite2 (fun e0 => ?_) (fun _ => ⟨o3, o10, rfl, sp10.up (le 3)⟩)⟩
      have np : 0 < n := by have := of_decide_eq_true e0; omega
      obtain ⟨e1, e2⟩ := b80 e
      rw [e1] at sp10
      obtain ⟨P1, st10, dP, aP⟩ := sp10.st
      obtain ⟨us, hus, pus, lus, eus⟩ := id st10
      have hxl : 0 < us.length := by omega
      obtain ⟨ta, ys, eta, pta, hta, lys, eys⟩ := eus _ (List.getElem_mem hxl)
      have hil : n - 1 < ys.length := by omega
      obtain ⟨rb, erb, prb, irb⟩ := eys _ (List.getElem_mem hil)
      refine ⟨_, rfl, Ds, us, 0, _, rfl, rfl, SqL.of hus, at_of rfl (by rw [List.getElem?_eq_getElem hxl, eta]), _, rfl, _, _, rfl, rfl, ta, ys, _, _, rfl, rfl, SqL.of hta, at_of (by show (n : Int) - 1 = ((n - 1 : Nat) : Int); omega) (by rw [List.getElem?_eq_getElem hil, erb]), ?_⟩
      obtain ⟨zs, z, hz1, lz, hz, bz⟩ := irb.get (i := 0) np
      refine ⟨_, rfl, rb, zs, 0, _, rfl, rfl, SqL.of hz1, at_of rfl hz, _, rfl, _, _, rfl, rfl, _, rfl, rb, zs, 0, 0, rfl, rfl, hz1, ixN_at rfl (by omega), ?_⟩
      exact ⟨_, _, rfl, by
        have := WR (i := 0) (sp10.up (B := 81) (by decide)) np (st10.up (by decide)) dP aP prb (irb.up (by decide)) hz1 (bt_more bz bmo)
        rw [show (if kd < 4 then 81 else 80) = 81 from e2]
        exact this⟩
    rintro σ' G11 ⟨o3, o10, rfl, sp11⟩
    have sp11 : Spt 81 H G11 a cl Ds D2 D3 D4 k n := sp11.up (by split <;> decide)
    refine ⟨fun σ' G => ∃ Ds, σ' = [some (.ref a), some (.ref q), some (.int (n : Int)), o3, some (.ref Ds), some (.ref D2), some (.ref D3), some (.ref D4), some (.int kd), some (.int mo), o10, none] ∧ Spt 81 H G a cl Ds D2 D3 D4 k n, ?_, ?_⟩
    · refine ⟨_, rfl, rfl, _, rfl, ite2 (fun e => ?_) (fun _ => ⟨Ds, rfl, sp11⟩)⟩
      obtain ⟨P1, st11, dP, aP⟩ := sp11.st
      obtain ⟨us, hus, pus, lus, eus⟩ := st11
      refine ⟨_, rfl, Ds, us, rfl, SqL.of hus, fun r nr => ?_⟩
      have sr : Same G11 (upd G11 r (.lst us.reverse)) := Same.upd nr
      have fr0 : Fr Emp G11 (upd G11 r (.lst us.reverse)) := Same.fr sr
      have hr' : (upd G11 r (.lst us.reverse)) r = some (.lst us.reverse) := upd_same
      generalize upd G11 r (.lst us.reverse) = G12 at *
      have nrH : H r = none := sp11.f.k.free nr
      have neA : ∀ {b : Addr}, G11 b ≠ none → r ≠ b := fun h e => h (by rw [← e]; exact nr)
      refine ⟨r, rfl, sp11.fe.same sr, sp11.f.trans (fr0.more fun _ z => z.elim), ⟨fun b => P1 b ∨ b = r, ⟨us.reverse, hr', .inr rfl, by rw [List.length_reverse, lus], fun x hx => (eus x (List.mem_reverse.mp hx)).fr fr0 (fun _ _ => id) fun b z => .inl z⟩, fun b z => ?_, fun b z => ?_⟩, sp11.i2.fr fr0 id, sp11.i3.fr fr0 id, sp11.b4.fr fr0 id⟩
      · rcases z with z | z
        · exact dP b z
        · rw [z]
          exact ⟨nrH, neA sp11.fe.there, neA (by obtain ⟨_, h⟩ := sp11.fe.lst2; rw [h]; intro y; cases y), neA sp11.i2.there, neA sp11.i3.there, neA (by obtain ⟨_, h, _⟩ := sp11.b4; rw [h]; intro y; cases y)⟩
      · rcases z with z | z
        · exact fr0.k.a b (aP b z)
        · rw [z, hr']; intro y; cases y
    rintro σ' G12 ⟨Ds, rfl, sp12⟩
    refine ⟨fun σ' G => σ' = [some (.ref a), some (.ref q), some (.int (n : Int)), o3, some (.ref Ds), some (.ref D2), some (.ref D3), some (.ref D4), some (.int kd), some (.int mo), o10, none] ∧ Spt 81 H G a cl Ds D2 D3 D4 k n, ?_, ?_⟩
    · refine ⟨_, rfl, rfl, _, rfl, ite2 (fun e => ?_) (fun _ => ⟨rfl, sp12⟩)⟩
      have hqG : G12 q = some (.tup [.int (k : Int), .ref ps, .ref pt, .ref pe, .ref pb]) := sp12.f.t _ _ h1
      refine ⟨_, rfl, _, rfl, _, rfl, q, _, 0, _, rfl, rfl, SqT.of hqG, rfl, _, _, rfl, rfl, a, cl, _, rfl, sp12.fe, by omega, by omega, fun j G13 j0 j1 f13 b13 => ?_⟩
      have sp13 := sp12.draw D2a.1 D3a.1 D4a.1 (Fr.but b13 sp12.fe f13) f13
      obtain ⟨j, rfl⟩ : ∃ i' : Nat, j = (i' : Int) := ⟨j.toNat, by omega⟩
      obtain ⟨cs, hcs, lcs, ecs⟩ := sp13.b4
      refine ⟨D4, cs, (j : Int), j, rfl, rfl, hcs, ixN_at rfl (by omega), rfl, ?_⟩
      have fu : Fr (K1 D4) G13 (upd G13 D4 (.lst (cs.set j (.int 2)))) := Fr.updL rfl hcs
      obtain ⟨P1, x1, x2, x3⟩ := sp13.st
      exact ⟨sp13.fe.other D4a.1 D4a.2, Fr.dropS (W := fun b => K1 a b ∨ b = D4) ((sp13.f.more fun _ z => .inl z).trans (fu.more fun _ z => .inr z)) fun b z => z.imp id fun e => by rw [e]; exact n4H, ⟨P1, x1.fr fu (fun b q e => (x2 b q).2.2.2.2.2 e) fun _ q => q, x2, x3.keep fu.k⟩, sp13.i2.fr fu fun e => D42 e.symm, sp13.i3.fr fu fun e => D43 e.symm, ⟨_, upd_same, by rw [List.length_set, lcs], fun x hx => by
        rcases mem_set hx with rfl | hx
        · exact botS (by decide) (by decide)
        · exact ecs x hx⟩⟩
    rintro σ' G13 ⟨rfl, sp13⟩
    have hqG : G13 q = some (.tup [.int (k : Int), .ref ps, .ref pt, .ref pe, .ref pb]) := sp13.f.t _ _ h1
    refine ⟨_, rfl, q, _, 0, _, rfl, rfl, SqT.of hqG, rfl, _, rfl, _, rfl, _, rfl, _, rfl, (by show 5 ≤ sizeLine; decide), fun r nr => ?_⟩
    have sr : Same G13 (upd G13 r (.tup [.int (k : Int), .ref D2, .ref Ds, .ref D3, .ref D4])) := Same.upd nr
    have hr' : (upd G13 r (.tup [.int (k : Int), .ref D2, .ref Ds, .ref D3, .ref D4])) r = some (.tup [.int (k : Int), .ref D2, .ref Ds, .ref D3, .ref D4]) := upd_same
    generalize upd G13 r (.tup [.int (k : Int), .ref D2, .ref Ds, .ref D3, .ref D4]) = G14 at *
    have fr0 : Fr Emp G13 G14 := Same.fr sr
    obtain ⟨P1, x1, x2, x3⟩ := sp13.st
    have i2' := sp13.i2.fr fr0 id
    have i3' := sp13.i3.fr fr0 id
    have b4' := sp13.b4.fr fr0 id
    refine kk r G14 (fun b => P1 b ∨ b = D2 ∨ b = D3 ∨ b = D4) (sp13.f.trans (fr0.more fun _ z => z.elim)) (sp13.fe.same sr) ⟨⟨D2, Ds, D3, D4, hr', .inr (.inl rfl), .inr (.inr (.inl rfl)), .inr (.inr (.inr rfl)), i2', x1.fr fr0 (fun _ _ => id) fun b z => .inl z, i3', b4'⟩, fun b z => ?_⟩
    rcases z with z | z | z | z
    · exact fr0.k.a b (x3 b z)
    · rw [z]; exact i2'.there
    · rw [z]; exact i3'.there
    · rw [z]; obtain ⟨_, h, _⟩ := b4'; rw [h]; intro y; cases y
end
end RX

set_option Elab.async false
set_option maxRecDepth 100000
namespace RX
open PySem L2 LX VA VM VN EB
open RQ (Hg Bt)
abbrev sUnitL : Stmt := topS 59
theorem scUn : FnScope ["size", "at", "place"] ["size"] (defScope sUnitL) := ⟨rfl, rfl, rfl, by decide +kernel, rfl, by decide +kernel, by decide +kernel⟩
abbrev outUn0 : Scope := { kind := .function, names := [(".0", .local), ("at", .cell), ("range", .globalImplicit), ("size", .cell)], isGenerator := false, isCoroutine := false }
abbrev sPapers : Stmt := topS 67
theorem scPp : FnScope ["tape", "table", "width", "size", "row", "papers", "place", "spoilt", "number"] ["tape", "table", "width"] (defScope sPapers) := ⟨rfl, rfl, rfl, by decide +kernel, rfl, by decide +kernel, by decide +kernel⟩
abbrev outPp0 : Scope := { kind := .function, names := [(".0", .local), ("row", .local)], isGenerator := false, isCoroutine := false }
/-- a table that is only read -/
def PapM (H : Hp) (P : Addr → Prop) (S : Rat → Prop) (x : V) : Prop := ∃ p ys h w, x = .ref p ∧ P p ∧ H p = some (.lst ys) ∧ ys.length = h ∧ h ≤ 1000 ∧ w ≤ 1000 ∧ ∀ y ∈ ys, ∃ b, y = .ref b ∧ P b ∧ RowM H b w S
theorem PapM.fr {W P : Addr → Prop} {H H' : Hp} {S : Rat → Prop} {x : V} (h : PapM H P S x) (f : Fr W H H') (w : ∀ b, P b → ¬ W b) : PapM H' P S x := by
  obtain ⟨p, ys, n, m, e, pp, hp, l, h1, h2, r⟩ := h
  refine ⟨p, ys, n, m, e, pp, f.get hp (w _ pp), l, h1, h2, fun y hy => ?_⟩
  obtain ⟨b, e, pb, i⟩ := r y hy
  exact ⟨b, e, pb, i.fr f (w _ pb)⟩
theorem PapM.re {P P' : Addr → Prop} {H : Hp} {S : Rat → Prop} {x : V} (h : PapM H P S x) (k : ∀ b, P b → H b ≠ none → P' b) : PapM H P' S x := by
  obtain ⟨p, ys, n, m, e, pp, hp, l, h1, h2, r⟩ := h
  refine ⟨p, ys, n, m, e, k p pp (by rw [hp]; intro z; cases z), hp, l, h1, h2, fun y hy => ?_⟩
  obtain ⟨b, e, pb, i⟩ := r y hy
  exact ⟨b, e, k b pb i.there, i⟩
theorem PapM.at {C : Addr} {P : Addr → Prop} {H : Hp} {S : Rat → Prop} {x : V} (h : PapM H P S x) : ∃ p h w U, x = .ref p ∧ h ≤ 1000 ∧ w ≤ 1000 ∧ At C Emp H (.ref p) (prT h w U) ∧ ∀ i, i < h → ∀ j, j < w → S (U i j) := by
  obtain ⟨p, ys, n, m, rfl, pp, hp, l, h1, h2, r⟩ := h
  obtain ⟨U, hU⟩ := choose_U (n := n) (P := fun i u => ∃ b, ys[i]? = some (.ref b) ∧ At C Emp H (.ref b) (prL m u) ∧ ∀ j, j < m → S (u j)) fun i hi => by
    have hl : i < ys.length := by omega
    obtain ⟨b, e, _, rw'⟩ := r _ (List.getElem_mem hl)
    obtain ⟨u, hu, su⟩ := rw'.at (C := C)
    exact ⟨u, b, by rw [List.getElem?_eq_getElem hl, e], hu, su⟩
  refine ⟨p, n, m, U, rfl, h1, h2, .lst hp id (by rw [rng_len, l]) fun i x d hx hd => ?_, fun i hi => (hU i hi).choose_spec.2.2⟩
  obtain ⟨hi, rfl⟩ := rng_lt hd
  obtain ⟨b, e, hb, _⟩ := hU i hi
  rw [e] at hx
  obtain rfl := Option.some.inj hx
  exact hb
theorem TabR.pap {H : Hp} {O P : Addr → Prop} {p : Addr} {h w : Nat} {ra : Nat → Addr} {S : Rat → Prop} (t : TabR H O p h w ra S) (k : ∀ b, O b → P b) (h1 : h ≤ 1000) (w1 : w ≤ 1000) : PapM H P S (.ref p) :=
  ⟨p, _, h, w, rfl, k _ t.op, t.hp, by rw [List.length_map, List.length_range], h1, w1, fun y hy => by
    obtain ⟨i, hi, rfl⟩ := List.mem_map.mp hy
    have hi := List.mem_range.mp hi
    exact ⟨ra i, rfl, k _ (t.orr i hi), t.rows i hi⟩⟩
theorem pr_bit {H : Hp} {c : Addr} {b : Bool} (h : H c = some (.tup [.int (if b = true then 1 else 0), .int 1])) : PrQ H c (if b = true then 1 else 0) := by
  cases b
  · exact h
  · exact h
def spUn : Sp := fun vs H Q _ => ∃ (n : Nat) (S : Rat → Prop), vs = [.int (n : Int)] ∧ n ≤ 1000 ∧ S 0 ∧ S 1 ∧ ∀ (r : Addr) (H' : Hp) (ra : Nat → Addr), Same H H' → (∀ b, own r n ra b → H b = none) → TabR H' (own r n ra) r n n ra S → Q (.ref r) H'
def spPp : Sp := fun vs H Q _ => ∃ (OT : Addr → Prop) (a cl p : Addr) (h w : Nat) (ra : Nat → Addr) (S S' : Rat → Prop), vs = [.ref a, .ref p, .int (w : Int)] ∧ FeedAt H a cl ∧ TabR H OT p h w ra S ∧ (∀ b, OT b → b ≠ a) ∧ h ≤ 900 ∧ w ≤ 900 ∧ Stp S S' ∧ S 0 ∧ S 1 ∧
  ∀ (r : Addr) (H' : Hp) (acc : List V), Fr (K1 a) H H' → FeedAt H' a cl → H' r = some (.lst acc) → (∀ x ∈ acc, PapM H' (fun _ => True) S' x) → Q (.ref r) H'
section
variable {P : Program} {w : World} {K : PySem.W.Frag} {mg : Str → Option Value} {base : Heap}
theorem ok_un {f : Addr} {fd : FuncData} (F : Fun K "_law_unit" "_law_unit" sUnitL f fd) (T : TxtL mg) : FnOk P w K mg base CX0 1 f fd ["size"] spUn := by
  refine F.ok scUn (fun vs H Q E h => ?_) (fun cdv A outer s H vs Q E hr h => ?_)
  · obtain ⟨n, S, rfl, _⟩ := h
    rfl
  · obtain ⟨n, S, rfl, hn, S0, S1, kk⟩ := h
    refine ⟨_, pss_one (ps_ret (pe_lc (own := [("at", 1)]) (g := gName 1) (tt := tYes) rfl scUn.nd (pi_range1 (by rfl) T.range (pa_cons (pv 0) pa_nil)) (blkOk_by (N := ["size", "at", "place"]) (sc := (defScope sUnitL)) (by decide +kernel)) (fun _ _ _ _ _ => (pg_name (i := 1) scUn.nd rfl (.inr rfl))) (fun _ _ _ _ _ => pts_nil) (fun _ _ _ _ _ => (pe_lc (own := [("place", 2)]) (g := gName 2) (tt := tYes) rfl scUn.nd (pi_range1 (by rfl) T.range (pa_cons (pv 0) pa_nil)) (blkOk_by (N := ["size", "at", "place"]) (sc := outUn0) (by decide +kernel)) (fun _ _ _ _ _ => (pg_name (i := 2) scUn.nd rfl (.inl rfl))) (fun _ _ _ _ _ => pts_nil) (fun _ _ _ _ _ => (pe_tup (pa_cons (pe_callTy call_int1 (by rfl) T.int (by decide +kernel) (pa_cons (pe_cmpR op_eq (pv 1) (pv 2) (nomark _)) pa_nil)) (pa_cons pe_int pa_nil)))))))), ?_⟩
    refine ⟨_, rfl, n, rfl, by omega, by omega, fun D nD => ?_⟩
    refine lc_it (walk_range (lo := 0) (n := n)) (fun i G => ∃ ra, ColN H D i ra n S G) ⟨_, colN0 nD⟩ (fun _ _ _ _ => trivial) ?_ ?_
    · rintro i y G G1 hi ⟨ra, c⟩ ⟨rfl, rfl⟩
      refine ⟨rfl, _, rfl, n, rfl, by omega, by omega, fun L nL => ?_⟩
      refine lc_it (walk_range (lo := 0) (n := n)) (fun j G2 => Bl Emp G1 L j S G2) (bl0 nL) (fun _ _ _ _ => trivial) ?_ ?_
      · rintro j y G2 G3 hj b ⟨rfl, rfl⟩
        refine ⟨rfl, _, rfl, _, rfl, rfl, .inr ⟨_, rfl, (by show 2 ≤ sizeLine; decide), fun c2 nc2 => ?_⟩⟩
        obtain ⟨acc, a1, a2, a3⟩ := b.step (x := .ref c2) nL id (Same.fr (Same.upd nc2)) ⟨c2, _, rfl, pr_bit upd_same, by split <;> assumption⟩
        exact ⟨acc, a1, by rw [a2]; exact small1000 (by omega), a3⟩
      · rintro G2 b
        obtain ⟨a1, a2⟩ := c.step nD nL b.f.k.same b.done
        exact ⟨_, a1, by rw [List.length_map, List.length_range]; exact small1000 (by omega), _, a2⟩
    · rintro G ⟨ra, c⟩
      exact kk D G ra c.s (c.new nD) c.tab
end
end RX

set_option Elab.async false
set_option maxRecDepth 100000
namespace RX
open PySem L2 LX VA VM VN EB
open RQ (Hg Bt)
theorem fac2 : Fac 2 := ⟨by decide, by decide, by decide⟩
theorem mem_cut {xs : List V} {lo hi : Option Int} {x : V} (h : x ∈ cutV xs lo hi) : x ∈ xs := by
  unfold cutV at h
  exact List.mem_of_mem_drop (List.mem_of_mem_take h)
theorem len_cut {xs : List V} {lo hi : Option Int} : (cutV xs lo hi).length ≤ xs.length := by
  unfold cutV
  rw [List.length_take, List.length_drop]
  omega
theorem at3 {y : Int} (h0 : 0 ≤ y) (h1 : y < 3) : ∃ v : Int, atI [V.int 1, V.int (-1), V.int 3] y = some (.int v) ∧ (v = 1 ∨ v = -1 ∨ v = 3) := by
  have : y = 0 ∨ y = 1 ∨ y = 2 := by omega
  rcases this with rfl | rfl | rfl
  · exact ⟨_, rfl, .inl rfl⟩
  · exact ⟨_, rfl, .inr (.inl rfl)⟩
  · exact ⟨_, rfl, .inr (.inr rfl)⟩
theorem frac {v d : Int} (hv : v = 1 ∨ v = -1 ∨ v = 3) (hd : d = 1 ∨ d = 2) : ∃ q : Rat, q.num = v ∧ (q.den : Int) = d ∧ Fac q := by
  rcases hv with rfl | rfl | rfl <;> rcases hd with rfl | rfl
  · exact ⟨1, by decide, by decide, by decide, by decide, by decide⟩
  · exact ⟨1 / 2, by decide +kernel, by decide +kernel, by decide +kernel, by decide +kernel, by decide +kernel⟩
  · exact ⟨-1, by decide, by decide, by decide, by decide, by decide⟩
  · exact ⟨-1 / 2, by decide +kernel, by decide +kernel, by decide +kernel, by decide +kernel, by decide +kernel⟩
  · exact ⟨3, by decide, by decide, by decide, by decide, by decide⟩
  · exact ⟨3 / 2, by decide +kernel, by decide +kernel, by decide +kernel, by decide +kernel, by decide +kernel⟩
section
variable {P : Program} {w : World} {K : PySem.W.Frag} {mg : Str → Option Value} {base : Heap}
theorem ok_pp {f fU fB fL fN C : Addr} {fd dU dB dL dN : FuncData} (F : Fun K "_law_papers" "_law_papers" sPapers f fd) (T : TxtL mg) (TP : TxtP mg) (cUn : CalN P w K mg base "_law_unit" 1 ["size"] spUn fU dU) (cBy : CalN P w K mg base "_law_by" 34 ["one", "two"] (spBy C) fB dB) (cPl : CalN P w K mg base "_law_plus" 34 ["one", "two"] (spPlu C) fL dL) (cNx : CalN P w K mg base "_law_next" 1 ["tape", "limit"] spDraw fN dN) :
    FnOk P w K mg base CX0 35 f fd ["tape", "table", "width"] spPp := by
  refine F.ok scPp (fun vs H Q E h => ?_) (fun cdv A outer s H vs Q E hr h => ?_)
  · obtain ⟨OT, a, cl, p, h, w, ra, S, S', rfl, _⟩ := h
    rfl
  · obtain ⟨OT, a, cl, p, h, w, ra, S, S', rfl, hF, t, tA, hh, hw, st, S0, S1, kk⟩ := h
    have hr34 : Room 34 _ := hr
    have hr1 : Room 1 _ := hr.mono (by decide)
    have nA : ∀ {G : Hp} {b : Addr}, Fr (K1 a) H G → G b = none → b ≠ a := fun f n e => (f.k.a a hF.there) (by rw [← e]; exact n)
    have len' : ∀ ra : Nat → Addr, ((List.range h).map fun i => V.ref (ra i)).length = h := fun ra => by rw [List.length_map, List.length_range]
    have len : ((List.range h).map fun i => V.ref (ra i)).length = h := by rw [List.length_map, List.length_range]
    refine ⟨_, pss_cons (ps_set (i := 3) scPp.nd rfl (.inl rfl) (pe_callB call_len_seq (by rfl) T.len PySem.boot_len (pa_cons (pv 1) pa_nil)))
      (pss_cons (ps_set (i := 5) scPp.nd rfl (.inl rfl) (pe_lst (pa_cons (pv 1) (pa_cons (pe_lst pa_nil) (pa_cons (pe_call cUn.G hr1 rfl cUn.m cUn.kp cUn.b .nil pass0 (pa_cons (pv 3) pa_nil)) (pa_cons (pe_lc (own := [("row", 4)]) (g := gName 4) (tt := tYes) rfl scPp.nd (pi_list (pv 1)) (blkOk_by (N := ["tape", "table", "width", "size", "row", "papers", "place", "spoilt", "number"]) (sc := (defScope sPapers)) (by decide +kernel)) (fun _ _ _ _ _ => (pg_name (i := 4) scPp.nd rfl (.inl rfl))) (fun _ _ _ _ _ => pts_nil) (fun _ _ _ _ _ => (pe_lc (own := [("number", 8)]) (g := gName 8) (tt := tYes) rfl scPp.nd (pi_listK (K := K) rfl (pv 4)) (blkOk_by (N := ["tape", "table", "width", "size", "row", "papers", "place", "spoilt", "number"]) (sc := outPp0) (by decide +kernel)) (fun _ _ _ _ _ => (pg_name (i := 8) scPp.nd rfl (.inl rfl))) (fun _ _ _ _ _ => pts_nil) (fun _ _ _ _ _ => (pe_call cBy.G hr34 rfl cBy.m cBy.kp cBy.b .nil pass0 (pa_cons (pe_tup (pa_cons pe_int (pa_cons pe_int pa_nil))) (pa_cons (pv 8) pa_nil))))))) pa_nil))))))
      (pss_cons (ps_expr (pe_bm PySem.F.plainAttrs_list PySem.F.slot_list_append PySem.F.type_list_append mt_append (pv 5) (pa_cons (pe_lc (own := [("row", 4)]) (g := gName 4) (tt := tYes) rfl scPp.nd (pi_list (pv 1)) (blkOk_by (N := ["tape", "table", "width", "size", "row", "papers", "place", "spoilt", "number"]) (sc := (defScope sPapers)) (by decide +kernel)) (fun _ _ _ _ _ => (pg_name (i := 4) scPp.nd rfl (.inl rfl))) (fun _ _ _ _ _ => pts_nil) (fun _ _ _ _ _ => (pe_op op_cat (pv 4) (pe_lst (pa_cons (pe_tup (pa_cons pe_int (pa_cons pe_int pa_nil))) pa_nil))))) pa_nil)))
      (pss_cons (ps_expr (pe_bm PySem.F.plainAttrs_list PySem.F.slot_list_append PySem.F.type_list_append mt_append (pv 5) (pa_cons (pe_op op_cat (pv 1) (pe_lst (pa_cons (pe_lc (own := [("place", 6)]) (g := gName 6) (tt := tYes) rfl scPp.nd (pi_range1 (by rfl) T.range (pa_cons (pv 2) pa_nil)) (blkOk_by (N := ["tape", "table", "width", "size", "row", "papers", "place", "spoilt", "number"]) (sc := (defScope sPapers)) (by decide +kernel)) (fun _ _ _ _ _ => (pg_name (i := 6) scPp.nd rfl (.inl rfl))) (fun _ _ _ _ _ => pts_nil) (fun _ _ _ _ _ => (pe_tup (pa_cons pe_int (pa_cons pe_int pa_nil))))) pa_nil))) pa_nil)))
      (pss_cons (ps_expr (pe_bm PySem.F.plainAttrs_list PySem.F.slot_list_append PySem.F.type_list_append mt_append (pv 5) (pa_cons (pe_slice sl_list (pv 1) po_none (po_some (pe_callB (call_max2 rfl) (by rfl) T.max (by decide +kernel) (pa_cons pe_int (pa_cons (pe_op op_sub (pv 3) pe_int) pa_nil))))) pa_nil)))
      (C8.pss_cut (ps_if (PW.pt (pw_and (pt_cmpR op_gt (pv 3) pe_int (nomark _)) (pw_and1 (pt_cmpR op_gt (pv 2) pe_int (nomark _)))))
        (pss_cons (ps_setLc (i := 7) (own := [("row", 4)]) (g := gName 4) (tt := tYes) rfl scPp.nd rfl rfl (sw_true rfl rfl rfl (by decide +kernel)) (pi_list (pv 1)) (blkOk_by (N := ["tape", "table", "width", "size", "row", "papers", "place", "spoilt", "number"]) (sc := (defScope sPapers)) (by decide +kernel)) (fun _ _ _ _ _ => (pg_name (i := 4) scPp.nd rfl (.inl rfl))) (fun _ _ _ _ _ => pts_nil) (fun _ _ _ _ _ => (pe_callTy (T := "list") (show CallR _ (.type "list") (rLstO K) from call_listK) (by rfl) TP.list (by decide +kernel) (pa_cons (pv 4) pa_nil))))
        (pss_cons (ps_set (i := 4) scPp.nd rfl (.inl rfl) (pe_ix ix_list (pv 7) (pe_call cNx.G hr1 rfl cNx.m cNx.kp cNx.b .nil pass0 (pa_cons (pv 0) (pa_cons (pv 3) pa_nil))) (fun _ _ => rfl)))
        (pss_cons (ps_set (i := 6) scPp.nd rfl (.inl rfl) (pe_call cNx.G hr1 rfl cNx.m cNx.kp cNx.b .nil pass0 (pa_cons (pv 0) (pa_cons (pv 2) pa_nil))))
        (pss_cons (ps_asg (pe_call cPl.G hr34 rfl cPl.m cPl.kp cPl.b .nil pass0 (pa_cons (pe_ix ix_list (pv 4) (pv 6) (fun _ _ => rfl)) (pa_cons (pe_tup (pa_cons (pe_ix ix_list (pe_lst (pa_cons pe_int (pa_cons (pe_un un_neg pe_int) (pa_cons pe_int pa_nil)))) (pe_call cNx.G hr1 rfl cNx.m cNx.kp cNx.b .nil pass0 (pa_cons (pv 0) (pa_cons pe_int pa_nil))) (fun _ _ => rfl)) (pa_cons (pe_op op_add pe_int (pe_call cNx.G hr1 rfl cNx.m cNx.kp cNx.b .nil pass0 (pa_cons (pv 0) (pa_cons pe_int pa_nil)))) pa_nil))) pa_nil))) (pg_sub (pv 4) (pv 6) set_list))
        (pss_one (ps_expr (pe_bm PySem.F.plainAttrs_list PySem.F.slot_list_append PySem.F.type_list_append mt_append (pv 5) (pa_cons (pv 7) pa_nil))))))))
        pss_nil)
      (pss_one (ps_ret (pv 5)))))))), ?_⟩
    refine ⟨_, rfl, p, _, rfl, .inl (SqL.of t.hp), ?_⟩
    rw [len]
    refine ⟨_, rfl, (by show 0 ≤ sizeLine; decide), fun l0 nl0 => ?_⟩
    have s1 : Same H (upd H l0 (.lst [])) := Same.upd nl0
    have hl0 : (upd H l0 (.lst [])) l0 = some (.lst []) := upd_same
    have l0a := (hF.ne_new nl0).1
    generalize upd H l0 (.lst []) = G1 at *
    refine ⟨_, rfl, h, S, rfl, by omega, S0, S1, fun ru G2 rau s2 nwu tu => ?_⟩
    have s02 := s1.trans s2
    have f02 : Fr (K1 a) H G2 := Same.fr s02
    have t2 := t.same s02
    refine ⟨_, rfl, p, rfl, ⟨_, SqL.of t2.hp⟩, fun D nD => ?_⟩
    have stD : ∀ (D : Addr) (Z : Addr → Prop) (wd : Nat) (G G' : Hp) (y : V), (∃ b, y = .ref b ∧ b ≠ D ∧ Z b ∧ RowM G b wd S') → Fr (And1 Emp D) G G' → ∃ b, y = .ref b ∧ b ≠ D ∧ Z b ∧ RowM G' b wd S' := fun D Z wd G G' y h f => by
      obtain ⟨b, e, n1, n2, i⟩ := h
      exact ⟨b, e, n1, n2, i.fr f fun z => z.elim id n1⟩
    refine lc_it (walk_list (K := K) (a := p) (xs := (List.range h).map fun i => V.ref (ra i))) (fun i G => Ls Emp G2 D i (fun G y => ∃ b, y = .ref b ∧ b ≠ D ∧ b ≠ a ∧ RowM G b w S') G) (ls0 nD) (fun i G _ b => SqL.of (b.f.get t2.hp id)) ?_ ?_
    · rintro i x G3 G4 hi ls ⟨rfl, hx⟩
      rw [len] at hi
      rw [TabR.get hi] at hx
      obtain rfl := Option.some.inj hx
      obtain ⟨xs, hxs, lxs, exs⟩ := ((t2.rows i hi).fr ls.f id).ex
      refine ⟨rfl, _, rfl, ra i, rfl, ⟨_, SqL.of hxs⟩, fun L nL => ?_⟩
      refine lc_it (walk_list (K := K) (a := ra i) (xs := xs)) (fun j G5 => Bl Emp G4 L j S' G5) (bl0 nL) (fun i G _ b => SqL.of (b.f.get hxs id)) ?_ ?_
      · rintro j x G5 G6 hj b ⟨rfl, hx⟩
        obtain ⟨p1, q1, rfl, h1, sq⟩ := (exs x (List.mem_of_getElem? hx)).fr b.f
        refine ⟨rfl, (by show 2 ≤ sizeLine; decide), fun c nc => ?_⟩
        have sc : Same G6 (upd G6 c (.tup [.int 2, .int 1])) := Same.upd nc
        have hc : PrQ (upd G6 c (.tup [.int 2, .int 1])) c 2 := (show PairAt _ c 2 1 from upd_same)
        generalize upd G6 c (.tup [.int 2, .int 1]) = G7 at *
        refine ⟨_, rfl, Emp, c, p1, 2, q1, rfl, at_pair hc id, at_pair (sc _ _ h1) id, alc_emp, fac2.hg, st.hg _ sq, fun r G8 s8 hr8 => ?_⟩
        obtain ⟨acc, a1, a2, a3⟩ := b.step (x := .ref r) nL id (Same.fr (sc.trans s8)) ⟨r, _, rfl, at_pr hr8, st.ml _ _ fac2 sq⟩
        exact ⟨acc, a1, by rw [a2]; exact small1000 (by omega), a3⟩
      · rintro G5 b
        rw [lxs] at b
        obtain ⟨acc0, hacc0, _⟩ := ls.xs
        have LD : L ≠ D := fun z => by rw [← z, nL] at hacc0; cases hacc0
        have La : L ≠ a := nA (f02.trans (ls.f.more fun _ z => z.elim)) nL
        obtain ⟨acc, a1, a2, a3⟩ := ls.step (x := .ref L) nD id (stD D (fun b => b ≠ a) w) b.f ⟨L, rfl, LD, La, b.done⟩
        exact ⟨acc, a1, by rw [a2]; exact small1000 (by omega), a3⟩
    rintro G3 ls3
    rw [len] at ls3
    have s03 : Same H G3 := s02.trans ls3.f.k.same
    have f03 : Fr (K1 a) H G3 := Same.fr s03
    have Da : D ≠ a := nA f02 nD
    obtain ⟨acc3, hacc3, lacc3, eacc3⟩ := ls3.xs
    -- the first four
    have P1 : PapM G3 (fun b => b ≠ a) S' (.ref p) := ((t.same s03).mono st.up).pap tA (by omega) (by omega)
    have P2 : PapM G3 (fun b => b ≠ a) S' (.ref l0) := ⟨l0, [], 0, 0, rfl, l0a, (s2.trans ls3.f.k.same) _ _ hl0, rfl, by decide, by decide, fun y hy => absurd hy List.not_mem_nil⟩
    have P3 : PapM G3 (fun b => b ≠ a) S' (.ref ru) := ((tu.same ls3.f.k.same).mono st.up).pap (fun b z => nA (Same.fr s1) (nwu b z)) (by omega) (by omega)
    have P4 : PapM G3 (fun b => b ≠ a) S' (.ref D) := ⟨D, acc3, h, w, rfl, Da, hacc3, lacc3, by omega, by omega, fun y hy => let ⟨b, e, _, n2, i⟩ := eacc3 y hy; ⟨b, e, n2, i⟩⟩
    refine ⟨(by show 4 ≤ sizeLine; decide), fun Dp nDp => ?_⟩
    have Dpa : Dp ≠ a := nA f03 nDp
    have Dpc : Dp ≠ cl := ((hF.same s03).ne_new nDp).2
    have s4 : Same G3 (upd G3 Dp (.lst [.ref p, .ref l0, .ref ru, .ref D])) := Same.upd nDp
    have hDp : (upd G3 Dp (.lst [.ref p, .ref l0, .ref ru, .ref D])) Dp = some (.lst [.ref p, .ref l0, .ref ru, .ref D]) := upd_same
    have toDp : ∀ {x}, PapM G3 (fun b => b ≠ a) S' x → PapM G3 (fun b => b ≠ a ∧ b ≠ Dp) S' x := fun h => h.re fun b z y => ⟨z, fun e => y (by rw [e]; exact nDp)⟩
    have all4 : ∀ x ∈ [V.ref p, V.ref l0, V.ref ru, V.ref D], PapM (upd G3 Dp (.lst [.ref p, .ref l0, .ref ru, .ref D])) (fun b => b ≠ a ∧ b ≠ Dp) S' x := fun x hx => by
      have k : ∀ {x}, PapM G3 (fun b => b ≠ a) S' x → PapM (upd G3 Dp (.lst [.ref p, .ref l0, .ref ru, .ref D])) (fun b => b ≠ a ∧ b ≠ Dp) S' x := fun h => (toDp h).fr (Same.fr (W := Emp) s4) fun _ _ => id
      rcases List.mem_cons.mp hx with rfl | hx
      · exact k P1
      rcases List.mem_cons.mp hx with rfl | hx
      · exact k P2
      rcases List.mem_cons.mp hx with rfl | hx
      · exact k P3
      · rw [List.mem_singleton.mp hx]; exact k P4
    have s04 := s03.trans s4
    generalize upd G3 Dp (.lst [.ref p, .ref l0, .ref ru, .ref D]) = G4 at *
    have pNe : p ≠ Dp := fun e => by rw [← e, s03 _ _ t.hp] at nDp; cases nDp
    have rNe : ∀ i, i < h → ra i ≠ Dp := fun i hi e => (((t.rows i hi).same s03).there) (by rw [e]; exact nDp)
    -- one more at the end of the papers
    have push : ∀ {G G' : Hp} {acc : List V} {x : V}, G Dp = some (.lst acc) → (∀ x ∈ acc, PapM G (fun b => b ≠ a ∧ b ≠ Dp) S' x) → Same G G' → PapM G' (fun b => b ≠ a ∧ b ≠ Dp) S' x → (∀ y ∈ acc ++ [x], PapM (upd G' Dp (.lst (acc ++ [x]))) (fun b => b ≠ a ∧ b ≠ Dp) S' y) ∧ Fr (K1 Dp) G' (upd G' Dp (.lst (acc ++ [x]))) := fun {G G' acc x} hd al s hx => by
      have fu : Fr (K1 Dp) G' (upd G' Dp (.lst (acc ++ [x]))) := Fr.updL rfl (s _ _ hd)
      refine ⟨fun y hy => ?_, fu⟩
      rcases List.mem_append.mp hy with hy | hy
      · exact ((al y hy).fr (Same.fr (W := Emp) s) fun _ _ => id).fr fu fun b z e => z.2 e
      · rw [List.mem_singleton.mp hy]
        exact hx.fr fu fun b z e => z.2 e
    have dropD : ∀ (G G' G'' : Hp), Fr (K1 a) H G → Same G G' → Fr (K1 Dp) G' G'' → Fr (K1 a) H G'' := fun G G' G'' f s fu => Fr.dropS (W := fun b => K1 a b ∨ b = Dp) (((f.trans (Same.fr s)).more fun _ z => .inl z).trans (fu.more fun _ z => .inr z)) fun b z => z.imp id fun e => by rw [e]; exact s03.free nDp
    -- rows with one more
    have f04 : Fr (K1 a) H G4 := Same.fr s04
    have t4 := t.same s04
    refine ⟨_, rfl, .inl ⟨rfl, _, SqL.of hDp⟩, _, rfl, p, rfl, ⟨_, SqL.of t4.hp⟩, fun D5 nD5 => ?_⟩
    refine lc_it (walk_list (K := K) (a := p) (xs := (List.range h).map fun i => V.ref (ra i))) (fun i G => Ls Emp G4 D5 i (fun G y => ∃ b, y = .ref b ∧ b ≠ D5 ∧ (b ≠ a ∧ b ≠ Dp) ∧ RowM G b (w + 1) S') G) (ls0 nD5) (fun i G _ b => SqL.of (b.f.get t4.hp id)) ?_ ?_
    · rintro i x G5 G6 hi ls ⟨rfl, hx⟩
      rw [len] at hi
      rw [TabR.get hi] at hx
      obtain rfl := Option.some.inj hx
      obtain ⟨xs, hxs, lxs, exs⟩ := ((t4.rows i hi).fr ls.f id).ex
      refine ⟨rfl, _, rfl, (by show 2 ≤ sizeLine; decide), fun c nc => ?_⟩
      have sc : Same G6 (upd G6 c (.tup [.int 0, .int 1])) := Same.upd nc
      have hc : PrQ (upd G6 c (.tup [.int 0, .int 1])) c 0 := (show PairAt _ c 0 1 from upd_same)
      generalize upd G6 c (.tup [.int 0, .int 1]) = G7 at *
      refine ⟨(by show 1 ≤ sizeLine; decide), fun l nl => ?_⟩
      have sl : Same G7 (upd G7 l (.lst [.ref c])) := Same.upd nl
      have hl : (upd G7 l (.lst [.ref c])) l = some (.lst [.ref c]) := upd_same
      generalize upd G7 l (.lst [.ref c]) = G8 at *
      have s68 := sc.trans sl
      refine ⟨ra i, l, xs, [.ref c], rfl, rfl, s68 _ _ hxs, hl, Nat.le_of_lt (small1000 (by rw [lxs]; show w + 1 ≤ 1000; omega)), fun r nr => ?_⟩
      have sr : Same G8 (upd G8 r (.lst (xs ++ [.ref c]))) := Same.upd nr
      have rowr : RowM (upd G8 r (.lst (xs ++ [.ref c]))) r (w + 1) S' := ⟨_, upd_same, by rw [List.length_append, lxs]; rfl, fun y hy => by
        rcases List.mem_append.mp hy with hy | hy
        · exact ((exs y hy).same (s68.trans sr)).mono st.up
        · rw [List.mem_singleton.mp hy]
          exact ⟨c, 0, rfl, (sl.trans sr) _ _ hc, st.up _ S0⟩⟩
      have s6r := s68.trans sr
      generalize upd G8 r (.lst (xs ++ [.ref c])) = G9 at *
      obtain ⟨acc0, hacc0, _⟩ := ls.xs
      have rD : r ≠ D5 := fun z => by rw [z, s68 _ _ hacc0] at nr; cases nr
      have rP : r ≠ Dp := fun z => by rw [z, s68 _ _ (ls.f.get hDp id)] at nr; cases nr
      have ra' : r ≠ a := nA ((f04.trans (ls.f.more fun _ z => z.elim)).trans (Same.fr s68)) nr
      obtain ⟨acc, a1, a2, a3⟩ := ls.step (x := .ref r) nD5 id (stD D5 (fun b => b ≠ a ∧ b ≠ Dp) (w + 1)) (Same.fr s6r) ⟨r, rfl, rD, ⟨ra', rP⟩, rowr⟩
      exact ⟨acc, a1, by rw [a2]; exact small1000 (by omega), a3⟩
    rintro G5 ls5
    rw [len] at ls5
    obtain ⟨acc5, hacc5, lacc5, eacc5⟩ := ls5.xs
    have D5a : D5 ≠ a := nA f04 nD5
    have D5p : D5 ≠ Dp := fun e => by rw [e, hDp] at nD5; cases nD5
    have P5 : PapM G5 (fun b => b ≠ a ∧ b ≠ Dp) S' (.ref D5) := ⟨D5, acc5, h, w + 1, rfl, ⟨D5a, D5p⟩, hacc5, lacc5, by omega, by omega, fun y hy => let ⟨b, e, _, n2, i⟩ := eacc5 y hy; ⟨b, e, n2, i⟩⟩
    have s45 : Same G4 G5 := ls5.f.k.same
    obtain ⟨al5, fu5⟩ := push hDp all4 s45 P5
    refine ⟨Dp, _, _, rfl, rfl, s45 _ _ hDp, (by show 4 < sizeLine; decide), ?_⟩
    have f06 := dropD _ _ _ f04 s45 fu5
    have t6 := (t4.same s45).fr fu5 fun b z e => by
      have := t.al b z
      rw [show b = Dp from e] at this
      exact this (s03.free nDp)
    have fe6 := (hF.same (s04.trans s45)).other (r := Dp) (o := .lst ([V.ref p, .ref l0, .ref ru, .ref D] ++ [.ref D5])) Dpa Dpc
    have h6 : (upd G5 Dp (.lst ([V.ref p, .ref l0, .ref ru, .ref D] ++ [.ref D5]))) Dp = some (.lst ([V.ref p, .ref l0, .ref ru, .ref D] ++ [.ref D5])) := upd_same
    generalize upd G5 Dp (.lst ([V.ref p, .ref l0, .ref ru, .ref D] ++ [.ref D5])) = G6 at *
    -- one more row
    refine ⟨_, rfl, .inl ⟨rfl, _, SqL.of h6⟩, _, rfl, _, rfl, w, rfl, by omega, by omega, fun L nL => ?_⟩
    refine lc_it (walk_range (lo := 0) (n := w)) (fun i G => Bl Emp G6 L i S' G) (bl0 nL) (fun _ _ _ _ => trivial) ?_ ?_
    · rintro i y G7 G8 hi b ⟨rfl, rfl⟩
      refine ⟨rfl, (by show 2 ≤ sizeLine; decide), fun c nc => ?_⟩
      obtain ⟨acc, a1, a2, a3⟩ := b.step (x := .ref c) nL id (Same.fr (Same.upd nc)) ⟨c, 0, rfl, (show PairAt _ c 0 1 from upd_same), st.up _ S0⟩
      exact ⟨acc, a1, by rw [a2]; exact small1000 (by omega), a3⟩
    rintro G7 b7
    have s67 : Same G6 G7 := b7.f.k.same
    refine ⟨(by show 1 ≤ sizeLine; decide), fun l nl => ?_⟩
    have s8 : Same G7 (upd G7 l (.lst [.ref L])) := Same.upd nl
    have hl8 : (upd G7 l (.lst [.ref L])) l = some (.lst [.ref L]) := upd_same
    generalize upd G7 l (.lst [.ref L]) = G8 at *
    refine ⟨p, l, _, [.ref L], rfl, rfl, s8 _ _ (s67 _ _ t6.hp), hl8, Nat.le_of_lt (small1000 (by rw [len]; show h + 1 ≤ 1000; omega)), fun r nr => ?_⟩
    have s9 : Same G8 (upd G8 r (.lst (((List.range h).map fun i => V.ref (ra i)) ++ [.ref L]))) := Same.upd nr
    have h9 : (upd G8 r (.lst (((List.range h).map fun i => V.ref (ra i)) ++ [.ref L]))) r = some (.lst (((List.range h).map fun i => V.ref (ra i)) ++ [.ref L])) := upd_same
    generalize upd G8 r (.lst (((List.range h).map fun i => V.ref (ra i)) ++ [.ref L])) = G9 at *
    have s69 := s67.trans (s8.trans s9)
    have t9 := t6.same s69
    have notDp : ∀ {G : Hp} {b : Addr}, Same G6 G → G b = none → b ≠ a ∧ b ≠ Dp := fun s n => ⟨nA (f06.trans (Same.fr s)) n, fun e => by rw [e, s _ _ h6] at n; cases n⟩
    have rowL : RowM G9 L w S' := b7.done.same (s8.trans s9)
    have tAD : ∀ b, OT b → b ≠ a ∧ b ≠ Dp := fun b z => ⟨tA b z, fun e => t.al b z (by rw [e]; exact s03.free nDp)⟩
    have P9 : PapM G9 (fun b => b ≠ a ∧ b ≠ Dp) S' (.ref r) := ⟨r, _, h + 1, w, rfl, notDp (s67.trans s8) nr, h9, by rw [List.length_append, len]; rfl, by omega, by omega, fun y hy => by
      rcases List.mem_append.mp hy with hy | hy
      · obtain ⟨i, hi, rfl⟩ := List.mem_map.mp hy
        have hi := List.mem_range.mp hi
        exact ⟨ra i, rfl, tAD _ (t.orr i hi), (t9.rows i hi).mono st.up⟩
      · rw [List.mem_singleton.mp hy]
        exact ⟨L, rfl, notDp (Same.refl G6) nL, rowL⟩⟩
    obtain ⟨al9, fu9⟩ := push h6 al5 s69 P9
    refine ⟨Dp, _, _, rfl, rfl, s69 _ _ h6, (by show 5 < sizeLine; decide), ?_⟩
    have f10 := dropD _ _ _ f06 s69 fu9
    have t10 := t9.fr fu9 fun b z e => (tAD b z).2 e
    have fe10 := (fe6.same s69).other (r := Dp) (o := .lst (([V.ref p, .ref l0, .ref ru, .ref D] ++ [.ref D5]) ++ [.ref r])) Dpa Dpc
    have h10 : (upd G9 Dp (.lst (([V.ref p, .ref l0, .ref ru, .ref D] ++ [.ref D5]) ++ [.ref r]))) Dp = some (.lst (([V.ref p, .ref l0, .ref ru, .ref D] ++ [.ref D5]) ++ [.ref r])) := upd_same
    generalize upd G9 Dp (.lst (([V.ref p, .ref l0, .ref ru, .ref D] ++ [.ref D5]) ++ [.ref r])) = G10 at *
    -- one row less
    refine ⟨_, rfl, .inl ⟨rfl, _, SqL.of h10⟩, _, rfl, _, rfl, _, _, rfl, rfl, _, _, rfl, _, rfl, p, _, rfl, SqL.of t10.hp, fun r2 nr2 => ?_⟩
    have s11 : Same G10 (upd G10 r2 (.lst (cutV ((List.range h).map fun i => V.ref (ra i)) none (some (if (h : Int) - 1 > 0 then (h : Int) - 1 else 0))))) := Same.upd nr2
    have h11 : (upd G10 r2 (.lst (cutV ((List.range h).map fun i => V.ref (ra i)) none (some (if (h : Int) - 1 > 0 then (h : Int) - 1 else 0))))) r2 = some (.lst (cutV ((List.range h).map fun i => V.ref (ra i)) none (some (if (h : Int) - 1 > 0 then (h : Int) - 1 else 0)))) := upd_same
    have lc := len_cut (xs := (List.range h).map fun i => V.ref (ra i)) (lo := none) (hi := some (if (h : Int) - 1 > 0 then (h : Int) - 1 else 0))
    have mc : ∀ {x}, x ∈ cutV ((List.range h).map fun i => V.ref (ra i)) none (some (if (h : Int) - 1 > 0 then (h : Int) - 1 else 0)) → x ∈ ((List.range h).map fun i => V.ref (ra i)) := fun h => mem_cut h
    rw [len] at lc
    generalize cutV ((List.range h).map fun i => V.ref (ra i)) none (some (if (h : Int) - 1 > 0 then (h : Int) - 1 else 0)) = cs at *
    generalize upd G10 r2 (.lst cs) = G11 at *
    have t11 := t10.same s11
    have notDp2 : ∀ {G : Hp} {b : Addr}, Same G10 G → G b = none → b ≠ a ∧ b ≠ Dp := fun s n => ⟨nA (f10.trans (Same.fr s)) n, fun e => by rw [e, s _ _ h10] at n; cases n⟩
    have P11 : PapM G11 (fun b => b ≠ a ∧ b ≠ Dp) S' (.ref r2) := ⟨r2, cs, cs.length, w, rfl, notDp2 (Same.refl _) nr2, h11, rfl, by omega, by omega, fun y hy => by
      obtain ⟨i, hi, rfl⟩ := List.mem_map.mp (mc hy)
      have hi := List.mem_range.mp hi
      exact ⟨ra i, rfl, tAD _ (t.orr i hi), (t11.rows i hi).mono st.up⟩⟩
    obtain ⟨al11, fu11⟩ := push h10 al9 s11 P11
    refine ⟨Dp, _, _, rfl, rfl, s11 _ _ h10, (by show 6 < sizeLine; decide), ?_⟩
    have f12 := dropD _ _ _ f10 s11 fu11
    have t12 := t11.fr fu11 fun b z e => (tAD b z).2 e
    have fe12 := (fe10.same s11).other (r := Dp) (o := .lst ((([V.ref p, .ref l0, .ref ru, .ref D] ++ [.ref D5]) ++ [.ref r]) ++ [.ref r2])) Dpa Dpc
    have h12 : (upd G11 Dp (.lst ((([V.ref p, .ref l0, .ref ru, .ref D] ++ [.ref D5]) ++ [.ref r]) ++ [.ref r2]))) Dp = some (.lst ((([V.ref p, .ref l0, .ref ru, .ref D] ++ [.ref D5]) ++ [.ref r]) ++ [.ref r2])) := upd_same
    generalize upd G11 Dp (.lst ((([V.ref p, .ref l0, .ref ru, .ref D] ++ [.ref D5]) ++ [.ref r]) ++ [.ref r2])) = G12 at *
    have few : ((([V.ref p, V.ref l0, V.ref ru, V.ref D] ++ [V.ref D5]) ++ [V.ref r]) ++ [V.ref r2]).length = 7 := rfl
    generalize (([V.ref p, V.ref l0, V.ref ru, V.ref D] ++ [V.ref D5]) ++ [V.ref r]) ++ [V.ref r2] = acc12 at *
    refine ⟨fun σ' G => ∃ acc o4 o6 o7 o8, σ' = [some (.ref a), some (.ref p), some (.int (w : Int)), some (.int (h : Int)), o4, some (.ref Dp), o6, o7, o8] ∧ Fr (K1 a) H G ∧ FeedAt G a cl ∧ G Dp = some (.lst acc) ∧ ∀ x ∈ acc, PapM G (fun _ => True) S' x, ?_, ?_⟩
    · have easy : ∃ acc o4 o6 o7 o8, [some (V.ref a), some (.ref p), some (.int (w : Int)), some (.int (h : Int)), none, some (.ref Dp), none, none, none] = [some (V.ref a), some (.ref p), some (.int (w : Int)), some (.int (h : Int)), o4, some (.ref Dp), o6, o7, o8] ∧ Fr (K1 a) H G12 ∧ FeedAt G12 a cl ∧ G12 Dp = some (.lst acc) ∧ ∀ x ∈ acc, PapM G12 (fun _ => True) S' x := ⟨acc12, _, _, _, _, rfl, f12, fe12, h12, fun x hx => (al11 x hx).re fun _ _ _ => trivial⟩
      refine ⟨_, rfl, _, _, rfl, rfl, _, rfl, ite2 (fun e0 => ?_) (fun _ => easy)⟩
      refine ⟨_, rfl, _, _, rfl, rfl, _, rfl, ite2 (fun e1 => ?_) (fun _ => easy)⟩
      have h0 : 0 < h := by have := of_decide_eq_true e0; omega
      have w0 : 0 < w := by have := of_decide_eq_true e1; omega
      refine ⟨_, rfl, p, rfl, ⟨_, SqL.of t12.hp⟩, fun D7 nD7 => ?_⟩
      refine lc_it (walk_list (K := K) (a := p) (xs := (List.range h).map fun i => V.ref (ra i))) (fun i G => ∃ rb, ColN G12 D7 i rb w S G) ⟨_, colN0 nD7⟩ (fun i G _ b => by obtain ⟨_, c⟩ := b; exact SqL.of (c.s _ _ t12.hp)) ?_ ?_
      · rintro i x G13 G14 hi ⟨rb, c⟩ ⟨rfl, hx⟩
        rw [len] at hi
        rw [TabR.get hi] at hx
        obtain rfl := Option.some.inj hx
        obtain ⟨xs, hxs, lxs, exs⟩ := ((t12.rows i hi).same c.s).ex
        refine ⟨rfl, _, rfl, ra i, xs, rfl, .inl (SqL.of hxs), fun r nr => ?_⟩
        have s3 : Same G14 (upd G14 r (.lst xs)) := Same.upd nr
        obtain ⟨a1, a2⟩ := c.step nD7 nr s3 (⟨xs, upd_same, lxs, fun z hz => (exs z hz).same s3⟩ : RowM _ r w S)
        exact ⟨_, a1, by rw [List.length_map, List.length_range]; exact small1000 (by omega), _, a2⟩
      rintro G13 ⟨rb, c⟩
      rw [len] at c
      have t13 := c.tab
      have s1213 := c.s
      have nw7 := c.new nD7
      have f13 := f12.trans (Same.fr (W := K1 a) s1213)
      have fe13 := fe12.same s1213
      have ow : ∀ b, own D7 h rb b → b ≠ a ∧ b ≠ cl ∧ b ≠ Dp := fun b z => ⟨(fun e => fe12.there (by rw [← e]; exact nw7 b z)), (fun e => by obtain ⟨_, q⟩ := fe12.lst2; rw [← e, nw7 b z] at q; cases q), (fun e => by have := nw7 b z; rw [e, h12] at this; cases this)⟩
      have al13 : ∀ x ∈ acc12, PapM G13 (fun b => (b ≠ a ∧ b ≠ Dp) ∧ ¬ own D7 h rb b) S' x := fun x hx => ((al11 x hx).re fun b z y => ⟨z, fun o => y (nw7 b o)⟩).fr (Same.fr (W := Emp) s1213) fun _ _ => id
      refine ⟨_, rfl, _, rfl, _, rfl, a, cl, h, rfl, fe13, by omega, by omega, fun i G14 i0 i1 f14 b14 => ?_⟩
      have g14 := Fr.but b14 fe13 f14
      have t14 := t13.fr g14 fun b z e => (ow b z).1 e
      obtain ⟨i, rfl⟩ : ∃ i' : Nat, i = (i' : Int) := ⟨i.toNat, by omega⟩
      have hi : i < h := by omega
      refine ⟨D7, _, _, _, rfl, rfl, SqL.of t14.hp, at_of rfl (TabR.get hi), ?_⟩
      refine ⟨_, rfl, _, rfl, a, cl, w, rfl, f14, by omega, by omega, fun j G15 j0 j1 f15 b15 => ?_⟩
      have g15 := Fr.but b15 f14 f15
      have t15 := t14.fr g15 fun b z e => (ow b z).1 e
      obtain ⟨j, rfl⟩ : ∃ i' : Nat, j = (i' : Int) := ⟨j.toNat, by omega⟩
      obtain ⟨xs, p1, q1, hx, lx, hx1, hp1, sq1⟩ := (t15.rows i hi).get (i := j) (by omega)
      have orb : own D7 h rb (rb i) := .inr ⟨i, hi, rfl⟩
      refine ⟨_, rfl, _, rfl, rb i, xs, _, _, rfl, rfl, SqL.of hx, at_of rfl hx1, ?_⟩
      refine ⟨_, rfl, (by show 3 ≤ sizeLine; decide), fun l nl => ?_⟩
      have s16 : Same G15 (upd G15 l (.lst [.int 1, .int (-1), .int 3])) := Same.upd nl
      have hl : (upd G15 l (.lst [.int 1, .int (-1), .int 3])) l = some (.lst [.int 1, .int (-1), .int 3]) := upd_same
      generalize upd G15 l (.lst [.int 1, .int (-1), .int 3]) = G16 at *
      refine ⟨_, rfl, a, cl, 3, rfl, f15.same s16, by decide, by decide, fun y G17 y0 y1 f17 b17 => ?_⟩
      have g17 := Fr.but b17 (f15.same s16) f17
      obtain ⟨v, hv, cv⟩ := at3 y0 y1
      refine ⟨l, _, _, _, rfl, rfl, SqL.of (g17.get hl fun z => (f15.ne_new nl).1 z), hv, ?_⟩
      refine ⟨_, rfl, a, cl, 2, rfl, f17, by decide, by decide, fun z G18 z0 z1 f18 b18 => ⟨_, _, rfl, rfl, (by show 2 ≤ sizeLine; decide), fun c2 nc2 => ?_⟩⟩
      have g18 := Fr.but b18 f17 f18
      obtain ⟨q2, n2, d2, fa2⟩ := frac cv (show 1 + z = 1 ∨ 1 + z = 2 by omega)
      have s19 : Same G18 (upd G18 c2 (.tup [.int v, .int (1 + z)])) := Same.upd nc2
      have hc2 : PrQ (upd G18 c2 (.tup [.int v, .int (1 + z)])) c2 q2 := by
        show upd _ _ _ c2 = _
        rw [upd_same, n2, d2]
      generalize upd G18 c2 (.tup [.int v, .int (1 + z)]) = G19 at *
      have g1519 : Fr (K1 a) G15 G19 := ((Same.fr s16).trans g17).trans (g18.trans (Same.fr s19))
      have f19 := f18.same s19
      refine ⟨Emp, p1, c2, q1, q2, rfl, at_pair (g1519.t _ _ hp1) id, at_pair hc2 id, alc_emp, st.hg _ sq1, fa2.hg, fun r3 G20 s20 hr3 => ?_⟩
      have g1520 := g1519.trans (Same.fr (W := K1 a) s20)
      have f20 := f19.same s20
      have hx20 := g1520.get hx (ow _ orb).1
      refine ⟨_, rfl, _, rfl, rb i, xs, (j : Int), j, rfl, rfl, hx20, ixN_at rfl (by omega), ?_⟩
      have fu21 : Fr (K1 (rb i)) G20 (upd G20 (rb i) (.lst (xs.set j (.ref r3)))) := Fr.updL rfl hx20
      have t20 := t15.fr g1520 fun b z e => (ow b z).1 e
      have sv : S' (q1 + q2) := by
        have := st.ad q2 q1 1 fa2 sq1 S1
        rwa [Rat.mul_one] at this
      have row21 := ((t20.rows i hi).mono st.up).set (i := j) hx20 ⟨r3, _, rfl, at_pr hr3, sv⟩
      have g1320 : Fr (K1 a) G13 G20 := (g14.trans g15).trans g1520
      have al21 : ∀ x ∈ acc12, PapM (upd G20 (rb i) (.lst (xs.set j (.ref r3)))) (fun b => (b ≠ a ∧ b ≠ Dp) ∧ ¬ own D7 h rb b) S' x := fun x hx => ((al13 x hx).fr g1320 fun b z e => z.1.1 e).fr fu21 fun b z e => z.2 (by rw [show b = rb i from e]; exact orb)
      have hDp20 : G20 Dp = some (.lst acc12) := g1320.get (s1213 _ _ h12) fun e => Dpa e
      have hDp21 := fu21.get hDp20 fun e => (ow _ orb).2.2 e.symm
      have t21 : ∀ k, k < h → RowM (upd G20 (rb i) (.lst (xs.set j (.ref r3)))) (rb k) w S' := fun k hk => by
        by_cases e : k = i
        · rw [e]; exact row21
        · exact ((t20.rows k hk).mono st.up).fr fu21 fun z => e (t13.inj k hk i hi z)
      have hp21 := fu21.get t20.hp fun e => t13.ne i hi e.symm
      have f21 : Fr (K1 a) H (upd G20 (rb i) (.lst (xs.set j (.ref r3)))) := Fr.dropS (W := fun b => K1 a b ∨ b = rb i) (((f13.trans g1320).more fun _ z => .inl z).trans (fu21.more fun _ z => .inr z)) fun b z => z.imp id fun e => by rw [e]; exact f12.k.free (nw7 _ orb)
      have fe21 : FeedAt (upd G20 (rb i) (.lst (xs.set j (.ref r3)))) a cl := f20.other (ow _ orb).1 (ow _ orb).2.1
      generalize upd G20 (rb i) (.lst (xs.set j (.ref r3))) = G21 at *
      have P21 : PapM G21 (fun b => b ≠ a ∧ b ≠ Dp) S' (.ref D7) := ⟨D7, _, h, w, rfl, ⟨(ow _ (.inl rfl)).1, (ow _ (.inl rfl)).2.2⟩, hp21, len' rb, by omega, by omega, fun y hy => by
        obtain ⟨k, hk, rfl⟩ := List.mem_map.mp hy
        have hk := List.mem_range.mp hk
        have o : own D7 h rb (rb k) := .inr ⟨k, hk, rfl⟩
        exact ⟨rb k, rfl, ⟨(ow _ o).1, (ow _ o).2.2⟩, t21 k hk⟩⟩
      obtain ⟨al22, fu22⟩ := push hDp21 (fun x hx => (al21 x hx).re fun b z _ => z.1) (Same.refl _) P21
      refine ⟨_, rfl, .inl ⟨rfl, _, SqL.of hDp21⟩, _, rfl, Dp, _, _, rfl, rfl, hDp21, by rw [few]; decide, ?_⟩
      exact ⟨_, _, _, _, _, rfl, dropD _ _ _ f21 (Same.refl _) fu22, fe21.other Dpa Dpc, upd_same, fun x hx => (al22 x hx).re fun _ _ _ => trivial⟩
    · rintro σ' G ⟨acc, o4, o6, o7, o8, rfl, f, fe, hd, al⟩
      exact ⟨_, rfl, kk Dp G acc f fe hd al⟩
end
end RX

set_option Elab.async false
set_option maxRecDepth 100000
set_option exponentiation.threshold 100000
namespace RX
open PySem L2 LX VA VM VN EB
open RQ (Hg Bt)
/-! ### sizes -/
def Lv (M : Int) (k : Nat) : Rat → Prop := fun q => Ov (M * 6 ^ k) (520 + 16 * k) q
theorem bt6 : ∀ k : Nat, Bt (3 * k + 1) ((6 : Int) ^ k)
  | 0 => show ((6 : Int) ^ 0).natAbs < 2 ^ 1 by decide
  | k + 1 => by
    rw [Int.pow_succ]
    exact ((bt6 k).mul (show Bt 3 6 from (show (6 : Int).natAbs < 2 ^ 3 by decide))).up (by omega)
theorem six_ne (k : Nat) : (6 : Int) ^ k ≠ 0 := Int.pow_ne_zero (by decide)
theorem sml_ov {f : Rat} (h : Sml f) : Ov 6 5 f := by
  have d1 : f.den = 1 ∨ f.den = 2 ∨ f.den = 3 := by
    have := h.2
    have := f.den_pos
    omega
  have key : ∀ c : Int, ((f.den : Int)) * c = 6 → c.natAbs ≤ 6 → Ov 6 5 f := fun c e l => by
    refine ⟨f.num * c, ?_, ?_⟩
    · rw [← e, Rat.intCast_mul, Rat.intCast_mul, RQ.nd f]
      grind
    · show (f.num * c).natAbs < 2 ^ 5
      rw [Int.natAbs_mul]
      have := Nat.mul_le_mul h.1 l
      omega
  rcases d1 with d | d | d
  · exact key 6 (by rw [d]; rfl) (by decide)
  · exact key 3 (by rw [d]; rfl) (by decide)
  · exact key 2 (by rw [d]; rfl) (by decide)
section
variable {M : Int}
theorem lv_bt (bM : Bt 430 M) (k : Nat) : Bt (431 + 3 * k) (M * 6 ^ k) := (bM.mul (bt6 k)).up (by omega)
theorem lv_ne (m0 : M ≠ 0) (k : Nat) : M * 6 ^ k ≠ 0 := Int.mul_ne_zero m0 (six_ne k)
theorem lv_e (k : Nat) : M * 6 ^ k * 6 = M * 6 ^ (k + 1) := by rw [Int.pow_succ, Int.mul_assoc]
theorem lv_up1' {k : Nat} {q : Rat} (h : Lv M k q) : Ov (M * 6 ^ (k + 1)) (520 + 16 * k + 3) q := by
  have := Ov.lift h (show Bt 3 6 from (show (6 : Int).natAbs < 2 ^ 3 by decide))
  rwa [lv_e] at this
theorem lv_up1 {k : Nat} {q : Rat} (h : Lv M k q) : Lv M (k + 1) q := (lv_up1' h).up (by omega)
theorem lv_up {k : Nat} {q : Rat} : ∀ {l : Nat}, k ≤ l → Lv M k q → Lv M l q
  | 0, h, x => by
    have : k = 0 := by omega
    rw [this] at x
    exact x
  | l + 1, h, x => by
    by_cases e : k = l + 1
    · rw [← e]; exact x
    · exact lv_up1 (lv_up (by omega) x)
theorem lv_mul' {k : Nat} {f y : Rat} (h : Sml f) (x : Lv M k y) : Ov (M * 6 ^ (k + 1)) (520 + 16 * k + 5) (f * y) := by
  have := ((sml_ov h).mul x).comm
  rw [lv_e] at this
  exact this.up (by omega)
theorem lv_mul {k : Nat} {f y : Rat} (h : Sml f) (x : Lv M k y) : Lv M (k + 1) (f * y) := (lv_mul' h x).up (by omega)
theorem lv_ad {k : Nat} {f x y : Rat} (h : Sml f) (a : Lv M k x) (b : Lv M k y) : Lv M (k + 1) (x + f * y) := (((lv_up1' a).up (by omega)).add (lv_mul' h b)).up (by omega)
theorem lv_sml (bM : Bt 430 M) {k : Nat} {f : Rat} (h : Sml f) : Lv M (k + 1) f := by
  have := (Ov.lift (sml_ov h) (lv_bt bM k)).comm
  rw [lv_e] at this
  exact this.up (by omega)
theorem lv_sml1 (bM : Bt 430 M) {k : Nat} (hk : 1 ≤ k) {f : Rat} (h : Sml f) : Lv M k f := lv_up hk (lv_sml bM (k := 0) h)
theorem lv_hg (m0 : M ≠ 0) (bM : Bt 430 M) {k : Nat} (hk : k ≤ 60) {q : Rat} (h : Lv M k q) : HgQ q := (bq_of_ov (c := 2000) (lv_ne m0 k) (lv_bt bM k) h (by omega) (by omega)).hg (by decide)
theorem lv_row (m0 : M ≠ 0) (bM : Bt 430 M) {k n : Nat} (hk : k ≤ 60) {u : Nat → Rat} (h : ∀ j, j < n → Lv M k (u j)) : RowB n 6000 7000 u := ⟨M * 6 ^ k, lv_ne m0 k, (lv_bt bM k).up (by omega), fun j hj => (h j hj).up (by omega)⟩
theorem lv_tab (m0 : M ≠ 0) (bM : Bt 430 M) {k g n : Nat} (hk : k ≤ 60) {U : Nat → Nat → Rat} (h : ∀ i, i < g → ∀ j, j < n → Lv M k (U i j)) : TabB g n 6000 7000 U := ⟨M * 6 ^ k, lv_ne m0 k, (lv_bt bM k).up (by omega), fun i hi j hj => (h i hi j hj).up (by omega)⟩
theorem Fac.sml {f : Rat} (h : Fac f) : Sml f := ⟨by have := h.2.1; omega, h.2.2⟩
theorem lv_stp (m0 : M ≠ 0) (bM : Bt 430 M) {k : Nat} (hk : k ≤ 50) : Stp (Lv M k) (Lv M (k + 1)) :=
  ⟨fun q h => lv_hg m0 bM (by omega) h, fun f q hf h => lv_hg m0 bM (k := k + 1) (by omega) (lv_mul hf.sml h), fun q h => lv_up1 h, fun f x y hf a b => lv_ad hf.sml a b, fun f y hf b => lv_mul hf.sml b⟩
theorem lv_shd (m0 : M ≠ 0) (bM : Bt 430 M) {k : Nat} (h1 : 1 ≤ k) (hk : k ≤ 50) : Shd (Lv M k) (Lv M (k + 1)) (Lv M (k + 3)) where
  rowS := fun n u h => lv_row m0 bM (by omega) h
  tabS := fun g n U h => lv_tab m0 bM (by omega) h
  rowM := fun n u h => lv_row m0 bM (k := k) (by omega) fun j hj => lv_sml1 bM h1 (h j hj)
  dot := fun n u v hn hu hv => by
    have := (VN.half_ov (fun i hi => sml_ov (hu i hi)) (fun i hi => hv i hi) (Nat.le_refl n)).comm
    rw [lv_e] at this
    exact this.up (by omega)
  hg1 := fun q h => lv_hg m0 bM (by omega) h
  hgm := fun f y hf hy => lv_hg m0 bM (k := k + 1) (by omega) (lv_mul hf (lv_sml1 bM h1 hy))
  pl := fun x f y hx hf hy => lv_up (k := k + 2) (by omega) (lv_ad hf hx (lv_sml1 bM (by omega) hy))
  up := fun q h => lv_up (by omega) h
  up1 := fun q h => lv_up (by omega) h
  sm := fun q h => lv_sml1 bM (by omega) h
theorem mac_of (m0 : M ≠ 0) (bM : Bt 430 M) {k : Nat} (hk : k ≤ 60) {m : Mc} (h : McS m (Lv M k)) : MacB m := ⟨lv_row m0 bM hk h.s, lv_row m0 bM hk h.e, fun x hx => lv_tab m0 bM hk (h.t x hx)⟩
end
theorem lv0 {M : Int} {q : Rat} (h : Ov M 520 q) : Lv M 0 q := by
  show Ov (M * 6 ^ 0) (520 + 16 * 0) q
  rw [Int.pow_zero, Int.mul_one]
  exact h
theorem sml1 : Sml 1 := ⟨by decide, by decide⟩
end RX

set_option Elab.async false
set_option maxRecDepth 100000
namespace RX
open PySem L2 LX VA VM VN EB
open RQ (Hg Bt)
/-- all that the law holds -/
structure Wd (G : Hp) (a cl pq q1 q2 p : Addr) (k n n1 n2 : Nat) (ra : Nat → Addr) (O1 O2 OT P : Addr → Prop) (S : Rat → Prop) : Prop where
  fe : FeedAt G a cl
  pl : PlM 80 G P pq k n
  m1 : Pm G O1 q1 k n1 S
  m2 : Pm G O2 q2 k n2 S
  tt : TabR G OT p n1 n2 ra S
  d1 : ∀ b, O1 b → b ≠ a ∧ b ≠ cl
  d2 : ∀ b, O2 b → b ≠ a ∧ b ≠ cl
  dT : ∀ b, OT b → b ≠ a ∧ b ≠ cl
  dP : ∀ b, P b → b ≠ a
  x12 : ∀ b, O1 b → ¬ O2 b
  x1T : ∀ b, O1 b → ¬ OT b
  x2T : ∀ b, O2 b → ¬ OT b
  xP : ∀ b, P b → ¬ O1 b ∧ ¬ O2 b ∧ ¬ OT b
  l1 : n1 ≤ 5
  l2 : n2 ≤ 5
section
variable {G G' : Hp} {a cl pq q1 q2 p : Addr} {k n n1 n2 : Nat} {ra : Nat → Addr} {O1 O2 OT P : Addr → Prop} {S S' : Rat → Prop}
theorem fresh_ne {H : Hp} {b : Addr} (f : FeedAt H a cl) (h : H b = none) : b ≠ a ∧ b ≠ cl := ⟨fun e => f.there (by rw [← e]; exact h), fun e => by obtain ⟨ys, q⟩ := f.lst2; rw [← e, h] at q; cases q⟩
theorem sub_ne {H : Hp} {O O' : Addr → Prop} (f : FeedAt H a cl) (d : ∀ b, O b → b ≠ a ∧ b ≠ cl) (s : ∀ b, O' b → O b ∨ H b = none) : ∀ b, O' b → b ≠ a ∧ b ≠ cl := fun b z => (s b z).elim (d b) (fresh_ne f)
theorem sub_x {H : Hp} {O O' X : Addr → Prop} (x : ∀ b, O b → ¬ X b) (al : Alc X H) (s : ∀ b, O' b → O b ∨ H b = none) : ∀ b, O' b → ¬ X b := fun b z y => (s b z).elim (fun o => x b o y) (al b y)
theorem Wd.same (h : Wd G a cl pq q1 q2 p k n n1 n2 ra O1 O2 OT P S) (s : Same G G') : Wd G' a cl pq q1 q2 p k n n1 n2 ra O1 O2 OT P S :=
  ⟨h.fe.same s, h.pl.fr (Same.fr (W := Emp) s) (fun _ _ => id), h.m1.same s, h.m2.same s, h.tt.same s, h.d1, h.d2, h.dT, h.dP, h.x12, h.x1T, h.x2T, h.xP, h.l1, h.l2⟩
theorem Wd.draw (h : Wd G a cl pq q1 q2 p k n n1 n2 ra O1 O2 OT P S) (b : But a G G') (f : FeedAt G' a cl) : Wd G' a cl pq q1 q2 p k n n1 n2 ra O1 O2 OT P S :=
  have g : Fr (K1 a) G G' := Fr.but b h.fe f
  ⟨f, h.pl.fr g (fun b z e => h.dP b z e), h.m1.fr g (fun b z e => (h.d1 b z).1 e), h.m2.fr g (fun b z e => (h.d2 b z).1 e), h.tt.fr g (fun b z e => (h.dT b z).1 e), h.d1, h.d2, h.dT, h.dP, h.x12, h.x1T, h.x2T, h.xP, h.l1, h.l2⟩
theorem Wd.frd (h : Wd G a cl pq q1 q2 p k n n1 n2 ra O1 O2 OT P S) (g : Fr (K1 a) G G') (f : FeedAt G' a cl) : Wd G' a cl pq q1 q2 p k n n1 n2 ra O1 O2 OT P S :=
  ⟨f, h.pl.fr g (fun b z e => h.dP b z e), h.m1.fr g (fun b z e => (h.d1 b z).1 e), h.m2.fr g (fun b z e => (h.d2 b z).1 e), h.tt.fr g (fun b z e => (h.dT b z).1 e), h.d1, h.d2, h.dT, h.dP, h.x12, h.x1T, h.x2T, h.xP, h.l1, h.l2⟩
theorem Wd.up (h : Wd G a cl pq q1 q2 p k n n1 n2 ra O1 O2 OT P S) (s : ∀ q, S q → S' q) : Wd G a cl pq q1 q2 p k n n1 n2 ra O1 O2 OT P S' :=
  ⟨h.fe, h.pl, h.m1.mono s, h.m2.mono s, h.tt.mono s, h.d1, h.d2, h.dT, h.dP, h.x12, h.x1T, h.x2T, h.xP, h.l1, h.l2⟩
/-- the second machine changes, and the table is a new one -/
theorem Wd.two {O2' OT' : Addr → Prop} {p' : Addr} {ra' : Nat → Addr} {m : Nat} {G2 : Hp} (h : Wd G a cl pq q1 q2 p k n n1 n2 ra O1 O2 OT P S) (up : ∀ q, S q → S' q) (s2 : ∀ b, O2' b → O2 b ∨ G b = none) (f : Fr (Ta O2 a) G G2) (fe : FeedAt G2 a cl) (m2 : Pm G2 O2' q2 k m S') (hm : m ≤ 5) (s : Same G2 G') (nT : ∀ b, OT' b → G2 b = none) (t : TabR G' OT' p' n1 m ra' S') :
    Wd G' a cl pq q1 q2 p' k n n1 m ra' O1 O2' OT' P S' := by
  have al1 := h.m1.al
  have alP := h.pl.al
  have fr : ∀ {b}, G2 b = none → G b = none := fun z => f.k.free z
  have n1' : ∀ b, O1 b → ¬ Ta O2 a b := fun b z y => y.elim (h.x12 b z) (h.d1 b z).1
  have nP' : ∀ b, P b → ¬ Ta O2 a b := fun b z y => y.elim (h.xP b z).2.1 (h.dP b z)
  refine ⟨fe.same s, (h.pl.fr f nP').fr (Same.fr (W := Emp) s) (fun _ _ => id), ((h.m1.fr f n1').same s).mono up, m2.same s, t, h.d1, sub_ne h.fe h.d2 s2, fun b z => fresh_ne h.fe (fr (nT b z)), h.dP, fun b z y => sub_x (fun b y z => h.x12 b z y) al1 s2 b y z, fun b z y => al1 b z (fr (nT b y)), fun b z y => m2.al b z (nT b y), fun b z => ⟨(h.xP b z).1, fun y => sub_x (fun b y z => (h.xP b z).2.1 y) alP s2 b y z, fun y => alP b z (fr (nT b y))⟩, h.l1, hm⟩
/-- the first machine changes, and rows are added to the table -/
theorem Wd.one {O1' OT' : Addr → Prop} {ra' : Nat → Addr} {m : Nat} (h : Wd G a cl pq q1 q2 p k n n1 n2 ra O1 O2 OT P S) (up : ∀ q, S q → S' q) (s1 : ∀ b, O1' b → O1 b ∨ G b = none) (sT : ∀ b, OT' b → OT b ∨ G b = none) (x : ∀ b, O1' b → ¬ OT' b) (f : Fr (Tb O1 OT a) G G') (fe : FeedAt G' a cl) (m1 : Pm G' O1' q1 k m S') (hm : m ≤ 5) (t : TabR G' OT' p m n2 ra' S') :
    Wd G' a cl pq q1 q2 p k n m n2 ra' O1' O2 OT' P S' := by
  have al2 := h.m2.al
  have alP := h.pl.al
  have n2' : ∀ b, O2 b → ¬ Tb O1 OT a b := fun b z y => y.elim (fun y => y.elim (fun y => h.x12 b y z) (h.x2T b z)) (h.d2 b z).1
  have nP' : ∀ b, P b → ¬ Tb O1 OT a b := fun b z y => y.elim (fun y => y.elim (h.xP b z).1 (h.xP b z).2.2) (h.dP b z)
  refine ⟨fe, h.pl.fr f nP', m1, (h.m2.fr f n2').mono up, t, sub_ne h.fe h.d1 s1, h.d2, sub_ne h.fe h.dT sT, h.dP, sub_x h.x12 al2 s1, x, fun b z y => sub_x (fun b y z => h.x2T b z y) al2 sT b y z, fun b z => ⟨fun y => sub_x (fun b y z => (h.xP b z).1 y) alP s1 b y z, (h.xP b z).2.1, fun y => sub_x (fun b y z => (h.xP b z).2.2 y) alP sT b y z⟩, hm, h.l2⟩
/-- the table changes -/
theorem Wd.tab {OT' : Addr → Prop} {ra' : Nat → Addr} (h : Wd G a cl pq q1 q2 p k n n1 n2 ra O1 O2 OT P S) (up : ∀ q, S q → S' q) (sT : ∀ b, OT' b → OT b ∨ G b = none) (f : Fr OT G G') (t : TabR G' OT' p n1 n2 ra' S') : Wd G' a cl pq q1 q2 p k n n1 n2 ra' O1 O2 OT' P S' := by
  have al1 := h.m1.al
  have al2 := h.m2.al
  have alP := h.pl.al
  refine ⟨h.fe.fr f (fun z => (h.dT _ z).1 rfl) (fun z => (h.dT _ z).2 rfl), h.pl.fr f fun b z => (h.xP b z).2.2, (h.m1.fr f h.x1T).mono up, (h.m2.fr f h.x2T).mono up, t, h.d1, h.d2, sub_ne h.fe h.dT sT, h.dP, h.x12, fun b z y => sub_x (fun b y z => h.x1T b z y) al1 sT b y z, fun b z y => sub_x (fun b y z => h.x2T b z y) al2 sT b y z, fun b z => ⟨(h.xP b z).1, (h.xP b z).2.1, fun y => sub_x (fun b y z => (h.xP b z).2.2 y) alP sT b y z⟩, h.l1, h.l2⟩
/-- the second machine changes -/
theorem Wd.sec {O2' : Addr → Prop} (h : Wd G a cl pq q1 q2 p k n n1 n2 ra O1 O2 OT P S) (up : ∀ q, S q → S' q) (s2 : ∀ b, O2' b → O2 b ∨ G b = none) (f : Fr O2 G G') (m2 : Pm G' O2' q2 k n2 S') : Wd G' a cl pq q1 q2 p k n n1 n2 ra O1 O2' OT P S' := by
  have al1 := h.m1.al
  have alT := h.tt.al
  have alP := h.pl.al
  refine ⟨h.fe.fr f (fun z => (h.d2 _ z).1 rfl) (fun z => (h.d2 _ z).2 rfl), h.pl.fr f fun b z => (h.xP b z).2.1, (h.m1.fr f h.x12).mono up, m2, (h.tt.fr f fun b z y => h.x2T b y z).mono up, h.d1, sub_ne h.fe h.d2 s2, h.dT, h.dP, fun b z y => sub_x (fun b y z => h.x12 b z y) al1 s2 b y z, h.x1T, sub_x h.x2T alT s2, fun b z => ⟨(h.xP b z).1, fun y => sub_x (fun b y z => (h.xP b z).2.1 y) alP s2 b y z, (h.xP b z).2.2⟩, h.l1, h.l2⟩
/-- the first machine changes -/
theorem Wd.fst {O1' : Addr → Prop} (h : Wd G a cl pq q1 q2 p k n n1 n2 ra O1 O2 OT P S) (up : ∀ q, S q → S' q) (s1 : ∀ b, O1' b → O1 b ∨ G b = none) (f : Fr O1 G G') (m1 : Pm G' O1' q1 k n1 S') : Wd G' a cl pq q1 q2 p k n n1 n2 ra O1' O2 OT P S' := by
  have al2 := h.m2.al
  have alT := h.tt.al
  have alP := h.pl.al
  refine ⟨h.fe.fr f (fun z => (h.d1 _ z).1 rfl) (fun z => (h.d1 _ z).2 rfl), h.pl.fr f fun b z => (h.xP b z).1, m1, (h.m2.fr f fun b z y => h.x12 b y z).mono up, (h.tt.fr f fun b z y => h.x1T b y z).mono up, sub_ne h.fe h.d1 s1, h.d2, h.dT, h.dP, sub_x h.x12 al2 s1, sub_x h.x1T alT s1, h.x2T, fun b z => ⟨fun y => sub_x (fun b y z => (h.xP b z).1 y) alP s1 b y z, (h.xP b z).2.1, (h.xP b z).2.2⟩, h.l1, h.l2⟩
theorem Pm.len {O : Addr → Prop} {H : Hp} {q : Addr} {S : Rat → Prop} {m : Nat} (h : Pm H O q k m S) : ∃ s t e xs, H q = some (.lst [.int (k : Int), .ref s, .ref t, .ref e]) ∧ H s = some (.lst xs) ∧ xs.length = m := by
  obtain ⟨s, t, e, sa, X, m⟩ := h
  obtain ⟨xs, hx, l, _⟩ := m.rs.ex
  exact ⟨s, t, e, xs, m.hq, hx, l⟩
end
end RX

set_option Elab.async false
set_option maxRecDepth 100000
set_option maxHeartbeats 4000000
namespace RX
open PySem L2 LX VA VM VN EB
open RQ (Hg Bt)
abbrev sLaw : Stmt := topS 68
theorem scLaw : FnScope ["script", "tape", "plain", "first", "second", "table", "turn", "kind", "deed", "paper", "spoilt", "void", "letter", "row", "place"] ["script"] (defScope sLaw) := ⟨rfl, rfl, rfl, by decide +kernel, rfl, by decide +kernel, by decide +kernel⟩
def spLaw (K : PySem.W.Frag) : Sp := fun vs H Q _ => ∃ (a : Addr) (ns : List Int), vs = [.ref a] ∧ SqL K H a (ns.map V.int) ∧ ns.length ≤ 63 ∧ ∀ H', Q (.bl true) H'
section
variable {P : Program} {w : World} {K : PySem.W.Frag} {mg : Str → Option Value} {base : Heap}
theorem ok_law {fTp fPn fNx fRe fPt fCo fUn fUr fUs fShw fDe fCh fRi fLe fPp fSpo fHo f C : Addr} {fd dTp dPn dNx dRe dPt dCo dUn dUr dUs dShw dDe dCh dRi dLe dPp dSpo dHo : FuncData} (F : Fun K "law" "law" sLaw f fd) (T : TxtL mg) (TP : TxtP mg)
    (cTp : CalN P w K mg base "_law_tape" 1 ["script"] (spFeed K) fTp dTp) (cPn : CalN P w K mg base "_law_plain" 4 ["tape", "wide", "limits"] spPn fPn dPn) (cNx : CalN P w K mg base "_law_next" 1 ["tape", "limit"] spDraw fNx dNx) (cRe : CalN P w K mg base "_law_reached" 1 ["plain"] spRe fRe dRe)
    (cPt : CalN P w K mg base "_law_parts" 35 ["plain"] spPt fPt dPt) (cCo : CalN P w K mg base "_law_copied" 1 ["parts"] spCo fCo dCo) (cUn : CalN P w K mg base "_law_unit" 1 ["size"] spUn fUn dUn) (cUr : CalN P w K mg base "_law_unreached" 35 ["parts", "tape"] spUs fUr dUr) (cUs : CalN P w K mg base "_law_unseen" 35 ["parts", "tape"] spUs fUs dUs)
    (cShw : CalN P w K mg base "_law_shadow" 37 ["parts", "table", "width", "tape"] spShw fShw dShw) (cDe : CalN P w K mg base "_law_deed" 34 ["tape", "size"] spDe fDe dDe) (cCh : CalN P w K mg base "_law_change" 36 ["parts", "deed"] spCh fCh dCh) (cRi : CalN P w K mg base "_law_right" 35 ["rows", "deed"] (spRi C) fRi dRi) (cLe : CalN P w K mg base "_law_left" 35 ["rows", "deed"] (spLe C) fLe dLe)
    (cPp : CalN P w K mg base "_law_papers" 35 ["tape", "table", "width"] spPp fPp dPp) (cSpo : CalN P w K mg base "_law_spoilt" 2 ["tape", "plain"] spSpo fSpo dSpo) (cHo : CalN P w K mg base "_law_holds" 39 ["first", "second", "table"] (spHo C) fHo dHo) : FnOk P w K mg base CX0 40 f fd ["script"] (spLaw K) := by
  refine F.ok scLaw (fun vs H Q E h => ?_) (fun cdv A outer s H vs Q E hr h => ?_)
  · obtain ⟨a, ns, rfl, _⟩ := h
    rfl
  · obtain ⟨sc, ns, rfl, hS, hl, kend⟩ := h
    have hr1 : Room 1 _ := hr.mono (by decide)
    have hr2 : Room 2 _ := hr.mono (by decide)
    have hr4 : Room 4 _ := hr.mono (by decide)
    have hr34 : Room 34 _ := hr.mono (by decide)
    have hr35 : Room 35 _ := hr.mono (by decide)
    have hr36 : Room 36 _ := hr.mono (by decide)
    have hr37 : Room 37 _ := hr.mono (by decide)
    have hr39 : Room 39 _ := hr
    have len2 : ∀ {m : Nat} {rb : Nat → Addr}, ((List.range m).map fun i => V.ref (rb i)).length = m := fun {m rb} => by rw [List.length_map, List.length_range]
    refine ⟨_, pss_cons (ps_set (i := 1) scLaw.nd rfl (.inl rfl) (pe_call cTp.G hr1 rfl cTp.m cTp.kp cTp.b .nil pass0 (pa_cons (pv 0) pa_nil)))
      (pss_cons (ps_set (i := 2) scLaw.nd rfl (.inl rfl) (pe_call cPn.G hr4 rfl cPn.m cPn.kp cPn.b .nil pass0 (pa_cons (pv 1) (pa_cons pe_bl (pa_cons (pe_lst (pa_cons pe_int (pa_cons pe_int (pa_cons pe_int (pa_cons pe_int pa_nil))))) pa_nil)))))
      (C8.pss_cut (ps_if (pt_cmpR op_eq (pe_call cNx.G hr1 rfl cNx.m cNx.kp cNx.b .nil pass0 (pa_cons (pv 1) (pa_cons pe_int pa_nil))) pe_int (nomark _))
        (pss_one (ps_set (i := 2) scLaw.nd rfl (.inl rfl) (pe_call cRe.G hr1 rfl cRe.m cRe.kp cRe.b .nil pass0 (pa_cons (pv 2) pa_nil))))
        pss_nil)
      (pss_cons (ps_set (i := 3) scLaw.nd rfl (.inl rfl) (pe_call cPt.G hr35 rfl cPt.m cPt.kp cPt.b .nil pass0 (pa_cons (pv 2) pa_nil)))
      (pss_cons (ps_set (i := 4) scLaw.nd rfl (.inl rfl) (pe_call cCo.G hr1 rfl cCo.m cCo.kp cCo.b .nil pass0 (pa_cons (pv 3) pa_nil)))
      (pss_cons (ps_set (i := 5) scLaw.nd rfl (.inl rfl) (pe_call cUn.G hr1 rfl cUn.m cUn.kp cUn.b .nil pass0 (pa_cons (pe_callB call_len_seq (by rfl) T.len PySem.boot_len (pa_cons (pe_ix ix_list (pv 3) pe_int (fun _ _ => rfl)) pa_nil)) pa_nil)))
      (pss_cons (ps_for PassesOwn.never rfl (pi_range1 (by rfl) T.range (pa_cons (pe_call cNx.G hr1 rfl cNx.m cNx.kp cNx.b .nil pass0 (pa_cons (pv 1) (pa_cons pe_int pa_nil))) pa_nil)) (pg_name (i := 6) scLaw.nd rfl (.inl rfl))
        (pss_cons (ps_set (i := 7) scLaw.nd rfl (.inl rfl) (pe_call cNx.G hr1 rfl cNx.m cNx.kp cNx.b .nil pass0 (pa_cons (pv 1) (pa_cons pe_int pa_nil))))
        (C8.pss_cut (ps_if (PW.pt (pw_and (pt_cmpR op_eq (pv 7) pe_int (nomark _)) (pw_and1 (pt_cmpR op_lt (pe_callB call_len_seq (by rfl) T.len PySem.boot_len (pa_cons (pe_ix ix_list (pv 4) pe_int (fun _ _ => rfl)) pa_nil)) pe_int (nomark _)))))
          (pss_cons (ps_expr (pe_call cUr.G hr35 rfl cUr.m cUr.kp cUr.b .nil pass0 (pa_cons (pv 4) (pa_cons (pv 1) pa_nil))))
          (pss_one (ps_setLc (i := 5) (own := [("row", 13)]) (g := gName 13) (tt := tYes) rfl scLaw.nd rfl rfl (sw_true rfl rfl rfl (by decide +kernel)) (pi_list (pv 5)) (blkOk_by (N := ["script", "tape", "plain", "first", "second", "table", "turn", "kind", "deed", "paper", "spoilt", "void", "letter", "row", "place"]) (sc := (defScope sLaw)) (by decide +kernel)) (fun _ _ _ _ _ => (pg_name (i := 13) scLaw.nd rfl (.inl rfl))) (fun _ _ _ _ _ => pts_nil) (fun _ _ _ _ _ => (pe_op op_cat (pv 13) (pe_lst (pa_cons (pe_tup (pa_cons pe_int (pa_cons pe_int pa_nil))) pa_nil)))))))
          pss_nil)
        (C8.pss_cut (ps_if (PW.pt (pw_and (pt_cmpR op_eq (pv 7) pe_int (nomark _)) (pw_and1 (pt_cmpR op_lt (pe_callB call_len_seq (by rfl) T.len PySem.boot_len (pa_cons (pe_ix ix_list (pv 3) pe_int (fun _ _ => rfl)) pa_nil)) pe_int (nomark _)))))
          (pss_cons (ps_expr (pe_call cUs.G hr35 rfl cUs.m cUs.kp cUs.b .nil pass0 (pa_cons (pv 3) (pa_cons (pv 1) pa_nil))))
          (pss_one (ps_expr (pe_bm PySem.F.plainAttrs_list PySem.F.slot_list_append PySem.F.type_list_append mt_append (pv 5) (pa_cons (pe_lc (own := [("place", 14)]) (g := gName 14) (tt := tYes) rfl scLaw.nd (pi_list (pe_ix ix_list (pv 4) pe_int (fun _ _ => rfl))) (blkOk_by (N := ["script", "tape", "plain", "first", "second", "table", "turn", "kind", "deed", "paper", "spoilt", "void", "letter", "row", "place"]) (sc := (defScope sLaw)) (by decide +kernel)) (fun _ _ _ _ _ => (pg_name (i := 14) scLaw.nd rfl (.inl rfl))) (fun _ _ _ _ _ => pts_nil) (fun _ _ _ _ _ => (pe_tup (pa_cons pe_int (pa_cons pe_int pa_nil))))) pa_nil)))))
          pss_nil)
        (pss_one (ps_if (PW.pt (pw_and (pt_cmpR op_eq (pv 7) pe_int (nomark _)) (pw_and1 (pt_cmpR op_lt (pe_callB call_len_seq (by rfl) T.len PySem.boot_len (pa_cons (pe_ix ix_list (pv 3) pe_int (fun _ _ => rfl)) pa_nil)) pe_int (nomark _)))))
          (pss_one (ps_expr (pe_call cShw.G hr37 rfl cShw.m cShw.kp cShw.b .nil pass0 (pa_cons (pv 3) (pa_cons (pv 5) (pa_cons (pe_callB call_len_seq (by rfl) T.len PySem.boot_len (pa_cons (pe_ix ix_list (pv 4) pe_int (fun _ _ => rfl)) pa_nil)) (pa_cons (pv 1) pa_nil)))))))
          pss_nil))))))
      (pss_cons (ps_for PassesOwn.never rfl (pi_range1 (by rfl) T.range (pa_cons (pe_call cNx.G hr1 rfl cNx.m cNx.kp cNx.b .nil pass0 (pa_cons (pv 1) (pa_cons pe_int pa_nil))) pa_nil)) (pg_name (i := 6) scLaw.nd rfl (.inl rfl))
        (pss_one (ps_if (PW.pt (pw_and (pt_cmpR op_eq (pe_call cNx.G hr1 rfl cNx.m cNx.kp cNx.b .nil pass0 (pa_cons (pv 1) (pa_cons pe_int pa_nil))) pe_int (nomark _)) (pw_and1 (pt_cmpR op_gt (pe_callB call_len_seq (by rfl) T.len PySem.boot_len (pa_cons (pe_ix ix_list (pv 4) pe_int (fun _ _ => rfl)) pa_nil)) pe_int (nomark _)))))
          (pss_cons (ps_set (i := 8) scLaw.nd rfl (.inl rfl) (pe_call cDe.G hr34 rfl cDe.m cDe.kp cDe.b .nil pass0 (pa_cons (pv 1) (pa_cons (pe_callB call_len_seq (by rfl) T.len PySem.boot_len (pa_cons (pe_ix ix_list (pv 4) pe_int (fun _ _ => rfl)) pa_nil)) pa_nil))))
          (pss_cons (ps_expr (pe_call cCh.G hr36 rfl cCh.m cCh.kp cCh.b .nil pass0 (pa_cons (pv 4) (pa_cons (pv 8) pa_nil))))
          (pss_one (ps_expr (pe_call cRi.G hr35 rfl cRi.m cRi.kp cRi.b .nil pass0 (pa_cons (pv 5) (pa_cons (pv 8) pa_nil)))))))
          (pss_one (ps_if (pt_cmpR op_gt (pe_callB call_len_seq (by rfl) T.len PySem.boot_len (pa_cons (pe_ix ix_list (pv 3) pe_int (fun _ _ => rfl)) pa_nil)) pe_int (nomark _))
            (pss_cons (ps_set (i := 8) scLaw.nd rfl (.inl rfl) (pe_call cDe.G hr34 rfl cDe.m cDe.kp cDe.b .nil pass0 (pa_cons (pv 1) (pa_cons (pe_callB call_len_seq (by rfl) T.len PySem.boot_len (pa_cons (pe_ix ix_list (pv 3) pe_int (fun _ _ => rfl)) pa_nil)) pa_nil))))
            (pss_cons (ps_expr (pe_call cCh.G hr36 rfl cCh.m cCh.kp cCh.b .nil pass0 (pa_cons (pv 3) (pa_cons (pv 8) pa_nil))))
            (pss_one (ps_expr (pe_call cLe.G hr35 rfl cLe.m cLe.kp cLe.b .nil pass0 (pa_cons (pv 5) (pa_cons (pv 8) pa_nil)))))))
            pss_nil)))))
      (pss_cons (ps_for PassesOwn.never rfl (pi_list (pe_call cPp.G hr35 rfl cPp.m cPp.kp cPp.b .nil pass0 (pa_cons (pv 1) (pa_cons (pv 5) (pa_cons (pe_callB call_len_seq (by rfl) T.len PySem.boot_len (pa_cons (pe_ix ix_list (pv 4) pe_int (fun _ _ => rfl)) pa_nil)) pa_nil))))) (pg_name (i := 9) scLaw.nd rfl (.inl rfl))
        (pss_one (ps_if (pt_not (pt_val (pe_call cHo.G hr39 rfl cHo.m cHo.kp cHo.b .nil pass0 (pa_cons (pv 3) (pa_cons (pv 4) (pa_cons (pv 9) pa_nil))))))
          (pss_one (ps_ret pe_bl))
          pss_nil)))
      (pss_cons (ps_set (i := 10) scLaw.nd rfl (.inl rfl) (pe_call cPt.G hr35 rfl cPt.m cPt.kp cPt.b .nil pass0 (pa_cons (pe_call cSpo.G hr2 rfl cSpo.m cSpo.kp cSpo.b .nil pass0 (pa_cons (pv 1) (pa_cons (pv 2) pa_nil))) pa_nil)))
      (C8.pss_cut (ps_if (PW.pt (pw_or (pt_not (pt_val (pe_call cHo.G hr39 rfl cHo.m cHo.kp cHo.b .nil pass0 (pa_cons (pv 3) (pa_cons (pv 10) (pa_cons (pv 5) pa_nil)))))) (pw_or1 (pt_not (pt_val (pe_call cHo.G hr39 rfl cHo.m cHo.kp cHo.b .nil pass0 (pa_cons (pv 4) (pa_cons (pv 3) (pa_cons (pv 5) pa_nil)))))))))
        (pss_one (ps_ret pe_bl))
        pss_nil)
      (pss_cons (ps_set (i := 11) scLaw.nd rfl (.inl rfl) (pe_lst (pa_cons (pe_ix ix_tup (pv 2) pe_int (fun _ _ => rfl)) (pa_cons (pe_lst pa_nil) (pa_cons (pe_lc (own := [("letter", 12)]) (g := gName 12) (tt := tYes) rfl scLaw.nd (pi_range1 (by rfl) T.range (pa_cons (pe_ix ix_tup (pv 2) pe_int (fun _ _ => rfl)) pa_nil)) (blkOk_by (N := ["script", "tape", "plain", "first", "second", "table", "turn", "kind", "deed", "paper", "spoilt", "void", "letter", "row", "place"]) (sc := (defScope sLaw)) (by decide +kernel)) (fun _ _ _ _ _ => (pg_name (i := 12) scLaw.nd rfl (.inl rfl))) (fun _ _ _ _ _ => pts_nil) (fun _ _ _ _ _ => (pe_lst pa_nil))) (pa_cons (pe_lst pa_nil) pa_nil))))))
      (C8.pss_cut (ps_if (PW.pt (pw_or (pt_not (pt_val (pe_call cHo.G hr39 rfl cHo.m cHo.kp cHo.b .nil pass0 (pa_cons (pv 11) (pa_cons (pv 4) (pa_cons (pe_lst pa_nil) pa_nil)))))) (pw_or1 (pt_not (pt_val (pe_call cHo.G hr39 rfl cHo.m cHo.kp cHo.b .nil pass0 (pa_cons (pv 3) (pa_cons (pv 11) (pa_cons (pe_lc (own := [("row", 13)]) (g := gName 13) (tt := tYes) rfl scLaw.nd (pi_list (pe_ix ix_list (pv 3) pe_int (fun _ _ => rfl))) (blkOk_by (N := ["script", "tape", "plain", "first", "second", "table", "turn", "kind", "deed", "paper", "spoilt", "void", "letter", "row", "place"]) (sc := (defScope sLaw)) (by decide +kernel)) (fun _ _ _ _ _ => (pg_name (i := 13) scLaw.nd rfl (.inl rfl))) (fun _ _ _ _ _ => pts_nil) (fun _ _ _ _ _ => (pe_lst pa_nil))) pa_nil)))))))))
        (pss_one (ps_ret pe_bl))
        pss_nil)
      (pss_one (ps_ret (pe_and (pe_call cHo.G hr39 rfl cHo.m cHo.kp cHo.b .nil pass0 (pa_cons (pv 11) (pa_cons (pv 11) (pa_cons (pe_lst pa_nil) pa_nil)))) (pe_one (pe_call cHo.G hr39 rfl cHo.m cHo.kp cHo.b .nil pass0 (pa_cons (pv 3) (pa_cons (pv 4) (pa_cons (pv 5) pa_nil)))))))))))))))))))), ?_⟩
    refine ⟨_, rfl, sc, ns, rfl, hS, hl, fun a cl H1 s1 na nc fe => ?_⟩
    refine ⟨_, rfl, (by show 4 ≤ sizeLine; decide), fun lm nlm => ?_⟩
    have s2 : Same H1 (upd H1 lm (.lst [.int 4, .int 3, .int 2, .int 2])) := Same.upd nlm
    have hlm : (upd H1 lm (.lst [.int 4, .int 3, .int 2, .int 2])) lm = some (.lst [.int 4, .int 3, .int 2, .int 2]) := upd_same
    generalize upd H1 lm (.lst [.int 4, .int 3, .int 2, .int 2]) = H2 at *
    have fe := fe.same s2
    refine ⟨a, cl, lm, rfl, fe, hlm, fun pq k n H3 k1 k4 n4 g3 fe3 hp3 => ?_⟩
    have dP3 : ∀ b, New H2 H3 b → b ≠ a := fun b z e => fe.there (by rw [← e]; exact z.1)
    refine ⟨fun σ' G => ∃ (pq : Addr) (P : Addr → Prop), σ' = [some (.ref sc), some (.ref a), some (.ref pq), none, none, none, none, none, none, none, none, none, none, none, none] ∧ FeedAt G a cl ∧ PlM 80 G P pq k n ∧ (∀ b, P b → b ≠ a), ?_, ?_⟩
    · refine ⟨_, rfl, a, cl, 2, rfl, fe3, by decide, by decide, fun y G4 _ _ f4 b4 => ?_⟩
      have hp4 := hp3.fr (Fr.but b4 fe3 f4) fun b z e => dP3 b z e
      refine ⟨rfl, _, rfl, ite2 (fun _ => ?_) (fun _ => ⟨pq, _, rfl, f4, hp4, dP3⟩)⟩
      refine ⟨_, rfl, _, pq, k, n, rfl, hp4, k1, k4, by omega, fun r G5 P' sub s5 hp5 => ⟨r, P', rfl, f4.same s5, hp5, fun b z => (sub b z).elim (dP3 b) fun q e => f4.there (by rw [← e]; exact q)⟩⟩
    rintro σ' G4 ⟨pq, P, rfl, fe4, hp4, dP⟩
    refine ⟨_, rfl, P, pq, k, n, rfl, hp4.up (by decide), k4, by omega, fun q1 G5 M O1 m0 bM s5 nw1 m1 => ?_⟩
    refine ⟨_, rfl, O1, q1, k, n, _, rfl, m1, k4, by omega, fun q2 G6 O2 s6 nw2 m2 => ?_⟩
    obtain ⟨ps1, _, _, xs1, hq1, hx1, lx1⟩ := (m1.same s6).len
    have lvS0 : ∀ l, 1 ≤ l → Lv M l 0 := fun l h => lv_sml1 bM h sml0
    have lvS1 : ∀ l, 1 ≤ l → Lv M l 1 := fun l h => lv_sml1 bM h sml1
    refine ⟨_, rfl, q1, _, 1, _, rfl, rfl, SqL.of hq1, rfl, ps1, xs1, rfl, .inl (SqL.of hx1), n, Lv M 2, congrArg (fun z : Nat => [V.int (z : Int)]) lx1, by omega, lvS0 2 (by decide), lvS1 2 (by decide), fun p G7 ra s7 nwT t7 => ?_⟩
    have s57 := s6.trans s7
    have wd7 : Wd G7 a cl pq q1 q2 p k n n n ra O1 O2 (own p n ra) P (Lv M 2) := by
      have to2 : ∀ q, Ov M 520 q → Lv M 2 q := fun q h => lv_up (by decide) (lv0 h)
      refine ⟨fe4.same (s5.trans s57), hp4.fr (Same.fr (W := Emp) (s5.trans s57)) (fun _ _ => id), (m1.same s57).mono to2, (m2.same s7).mono to2, t7, fun b z => fresh_ne fe4 (nw1 b z), fun b z => fresh_ne (fe4.same s5) (nw2 b z), fun b z => fresh_ne (fe4.same (s5.trans s6)) (nwT b z), dP, fun b z y => m1.al b z (nw2 b y), fun b z y => (m1.same s6).al b z (nwT b y), fun b z y => m2.al b z (nwT b y), fun b z => ⟨fun y => hp4.al b z (nw1 b y), fun y => hp4.al b z (s5.free (nw2 b y)), fun y => hp4.al b z (s5.free (s6.free (nwT b y)))⟩, by omega, by omega⟩
    refine ⟨_, rfl, a, cl, 4, rfl, wd7.fe, by decide, by decide, fun y G8 y0 y1 f8 b8 => ?_⟩
    obtain ⟨y, rfl⟩ : ∃ y' : Nat, y = (y' : Int) := ⟨y.toNat, by omega⟩
    refine ⟨y, rfl, by omega, by omega, for_range (n := y) (fun i σ G => ∃ (o6 o7 : Option V) (n1 n2 : Nat) (p : Addr) (ra : Nat → Addr) (O1 O2 OT : Addr → Prop), σ = [some (.ref sc), some (.ref a), some (.ref pq), some (.ref q1), some (.ref q2), some (.ref p), o6, o7, none, none, none, none, none, none, none] ∧ Wd G a cl pq q1 q2 p k n n1 n2 ra O1 O2 OT P (Lv M (2 + 5 * i))) ⟨none, none, n, n, p, ra, O1, O2, own p n ra, rfl, wd7.draw b8 f8⟩ ?_ ?_⟩
    · rintro i σ G hi ⟨o6, o7, n1, n2, p, ra, O1, O2, OT, rfl, wd⟩
      have i3 : i ≤ 3 := by omega
      refine ⟨_, rfl, a, cl, 3, rfl, wd.fe, by decide, by decide, fun kd G1 _ _ f1 b1 => ?_⟩
      have wd1 := wd.draw b1 f1
      refine ⟨fun σ' G => ∃ (n1 n2 : Nat) (p : Addr) (ra : Nat → Addr) (O1 O2 OT : Addr → Prop), σ' = [some (.ref sc), some (.ref a), some (.ref pq), some (.ref q1), some (.ref q2), some (.ref p), some (.int (0 + (i : Int))), some (.int kd), none, none, none, none, none, none, none] ∧ Wd G a cl pq q1 q2 p k n n1 n2 ra O1 O2 OT P (Lv M (2 + 5 * i + 1)), ?_, ?_⟩
      · have easy := wd1.up fun q h => lv_up (show 2 + 5 * i ≤ 2 + 5 * i + 1 by omega) h
        obtain ⟨ps2, _, _, xs2, hq2, hx2, lx2⟩ := wd1.m2.len
        refine ⟨_, rfl, rfl, _, rfl, ite2 (fun _ => ?_) (fun _ => ⟨n1, n2, p, ra, O1, O2, OT, rfl, easy⟩)⟩
        refine ⟨_, rfl, q2, _, 1, _, rfl, rfl, SqL.of hq2, rfl, ps2, xs2, rfl, .inl (SqL.of hx2), _, _, rfl, rfl, _, rfl, ite2 (fun e => ?_) (fun _ => ⟨n1, n2, p, ra, O1, O2, OT, rfl, easy⟩)⟩
        have n5 : n2 < 5 := by have := of_decide_eq_true e; omega
        have l1 := wd1.l1
        have l2 := wd1.l2
        refine ⟨_, rfl, _, rfl, O2, q2, a, cl, k, n2, Lv M (2 + 5 * i), Lv M (2 + 5 * i + 1), rfl, wd1.m2, wd1.fe, wd1.d2, by omega, k4, fun q h => lv_up (by omega) h, fun q h => lv_sml1 bM (by omega) h, fun G2 O2' sub f2 fe2 m2 => ?_⟩
        have nO2 : ∀ b, OT b → ¬ Ta O2 a b := fun b z y => y.elim (fun y => wd1.x2T b y z) (wd1.dT b z).1
        have tG := wd1.tt.fr f2 nO2
        have len : ∀ ra : Nat → Addr, ((List.range n1).map fun i => V.ref (ra i)).length = n1 := fun ra => by rw [List.length_map, List.length_range]
        refine ⟨_, rfl, p, rfl, ⟨_, SqL.of tG.hp⟩, fun D nD => ?_⟩
        refine lc_it (walk_list (K := K) (a := p) (xs := (List.range n1).map fun i => V.ref (ra i))) (fun j G3 => ∃ rb, ColN G2 D j rb (n2 + 1) (Lv M (2 + 5 * i + 1)) G3) ⟨_, colN0 nD⟩ (fun i G _ b => by obtain ⟨_, c⟩ := b; exact SqL.of (c.s _ _ tG.hp)) ?_ ?_
        · rintro j x G3 G4 hj ⟨rb, c⟩ ⟨rfl, hx⟩
          rw [len] at hj
          rw [TabR.get hj] at hx
          obtain rfl := Option.some.inj hx
          obtain ⟨zs, hzs, lzs, ezs⟩ := ((tG.rows j hj).same c.s).ex
          refine ⟨rfl, _, rfl, (by show 2 ≤ sizeLine; decide), fun c0 nc => ?_⟩
          have sa := Same.upd (o := .tup [.int 0, .int 1]) nc
          have hc : PrQ (upd G4 c0 (.tup [.int 0, .int 1])) c0 0 := (show PairAt _ c0 0 1 from upd_same)
          generalize upd G4 c0 (.tup [.int 0, .int 1]) = G5 at *
          refine ⟨(by show 1 ≤ sizeLine; decide), fun l nl => ?_⟩
          have sb : Same G5 (upd G5 l (.lst [.ref c0])) := Same.upd nl
          have hl2 : (upd G5 l (.lst [.ref c0])) l = some (.lst [.ref c0]) := upd_same
          generalize upd G5 l (.lst [.ref c0]) = G6 at *
          refine ⟨ra j, l, zs, [.ref c0], rfl, rfl, (sa.trans sb) _ _ hzs, hl2, Nat.le_of_lt (small1000 (by rw [lzs]; show n2 + 1 ≤ 1000; omega)), fun r nr => ?_⟩
          have s3 : Same G6 (upd G6 r (.lst (zs ++ [.ref c0]))) := Same.upd nr
          have rowr : RowM (upd G6 r (.lst (zs ++ [.ref c0]))) r (n2 + 1) (Lv M (2 + 5 * i + 1)) := ⟨_, upd_same, by rw [List.length_append, lzs]; rfl, fun y hy => by
            rcases List.mem_append.mp hy with hy | hy
            · exact ((ezs y hy).same ((sa.trans sb).trans s3)).mono fun q h => lv_up (by omega) h
            · rw [List.mem_singleton.mp hy]
              exact ⟨c0, 0, rfl, (sb.trans s3) _ _ hc, lvS0 _ (by omega)⟩⟩
          obtain ⟨a1, a2⟩ := c.step nD (((sa.trans sb)).free nr) ((sa.trans sb).trans s3) rowr
          exact ⟨_, a1, by rw [len2]; exact small1000 (by omega), _, a2⟩
        · rintro G3 ⟨rb, c⟩
          rw [len] at c
          exact ⟨n1, n2 + 1, D, rb, O1, O2', own D n1 rb, rfl, wd1.two (fun q h => lv_up (by omega) h) sub f2 fe2 m2 (by omega) c.s (c.new nD) c.tab⟩
      rintro σ' G2 ⟨n1, n2, p, ra, O1, O2, OT, rfl, wd2⟩
      refine ⟨fun σ' G => ∃ (n1 n2 : Nat) (p : Addr) (ra : Nat → Addr) (O1 O2 OT : Addr → Prop), σ' = [some (.ref sc), some (.ref a), some (.ref pq), some (.ref q1), some (.ref q2), some (.ref p), some (.int (0 + (i : Int))), some (.int kd), none, none, none, none, none, none, none] ∧ Wd G a cl pq q1 q2 p k n n1 n2 ra O1 O2 OT P (Lv M (2 + 5 * i + 2)), ?_, ?_⟩
      · have easy := wd2.up fun q h => lv_up (show 2 + 5 * i + 1 ≤ 2 + 5 * i + 2 by omega) h
        obtain ⟨ps1, _, _, xs1, hq1, hx1, lx1⟩ := wd2.m1.len
        refine ⟨_, rfl, rfl, _, rfl, ite2 (fun _ => ?_) (fun _ => ⟨n1, n2, p, ra, O1, O2, OT, rfl, easy⟩)⟩
        refine ⟨_, rfl, q1, _, 1, _, rfl, rfl, SqL.of hq1, rfl, ps1, xs1, rfl, .inl (SqL.of hx1), _, _, rfl, rfl, _, rfl, ite2 (fun e => ?_) (fun _ => ⟨n1, n2, p, ra, O1, O2, OT, rfl, easy⟩)⟩
        have n5 : n1 < 5 := by have := of_decide_eq_true e; omega
        have l1 := wd2.l1
        have l2 := wd2.l2
        refine ⟨_, rfl, _, rfl, O1, q1, a, cl, k, n1, Lv M (2 + 5 * i + 1), Lv M (2 + 5 * i + 2), rfl, wd2.m1, wd2.fe, wd2.d1, by omega, k4, fun q h => lv_up (by omega) h, fun q h => lv_sml1 bM (by omega) h, fun G3 O1' sub f3 fe3 m1' => ?_⟩
        have nOT : ∀ b, OT b → ¬ Ta O1 a b := fun b z y => y.elim (fun y => wd2.x1T b y z) (wd2.dT b z).1
        have nO2 : ∀ b, O2 b → ¬ Ta O1 a b := fun b z y => y.elim (fun y => wd2.x12 b y z) (wd2.d2 b z).1
        have tG := wd2.tt.fr f3 nOT
        obtain ⟨ps2, _, _, xs2, hq2, hx2, lx2⟩ := (wd2.m2.fr f3 nO2).len
        refine ⟨_, rfl, .inl ⟨rfl, _, SqL.of tG.hp⟩, _, rfl, q2, _, 1, _, rfl, rfl, SqL.of hq2, rfl, ps2, rfl, ⟨_, SqL.of hx2⟩, fun D nD => ?_⟩
        refine lc_it (walk_list (K := K) (a := ps2) (xs := xs2)) (fun j G4 => Bl Emp G3 D j (Lv M (2 + 5 * i + 2)) G4) (bl0 nD) (fun i G _ b => SqL.of (b.f.get hx2 id)) ?_ ?_
        · rintro j x G4 G5 hj b ⟨rfl, _⟩
          refine ⟨rfl, (by show 2 ≤ sizeLine; decide), fun c0 nc => ?_⟩
          obtain ⟨acc, a1, a2, a3⟩ := b.step (x := .ref c0) nD id (Same.fr (Same.upd nc)) ⟨c0, 0, rfl, (show PairAt _ c0 0 1 from upd_same), lvS0 _ (by omega)⟩
          exact ⟨acc, a1, by rw [a2]; exact small1000 (by omega), a3⟩
        · rintro G4 b
          rw [lx2] at b
          have s34 : Same G3 G4 := b.f.k.same
          have t4 := tG.same s34
          have nDG : G2 D = none := f3.k.free nD
          have nO : ¬ OT D := fun z => wd2.tt.al _ z nDG
          have t5 := t4.push t4.hp (fun i hi => (t4.rows i hi).mono fun q h => lv_up (by omega) h) t4.al nO b.done
          refine ⟨p, _, _, rfl, rfl, t4.hp, by rw [len2]; exact small1000 (by omega), ?_⟩
          have fu : Fr (K1 p) G4 (upd G4 p (.lst (((List.range n1).map fun i => V.ref (ra i)) ++ [.ref D]))) := Fr.updL rfl t4.hp
          have fall : Fr (Tb O1 OT a) G2 (upd G4 p (.lst (((List.range n1).map fun i => V.ref (ra i)) ++ [.ref D]))) := ((f3.more fun b z => z.imp .inl id).trans (Same.fr s34)).trans (fu.more fun b z => .inl (.inr (by rw [z]; exact wd2.tt.op)))
          have al1 := m1'.al
          have xx : ∀ b, O1' b → ¬ OT b := sub_x wd2.x1T wd2.tt.al sub
          have pO : ∀ b, O1' b → ¬ K1 p b := fun b z e => xx b z (by rw [show b = p from e]; exact wd2.tt.op)
          exact ⟨n1 + 1, n2, p, _, O1', O2, And1 OT D, rfl, wd2.one (fun q h => lv_up (by omega) h) sub (fun b z => z.imp id fun e => by rw [e]; exact nDG) (fun b z y => y.elim (xx b z) fun e => al1 b z (by rw [e]; exact nD)) fall ((fe3.same s34).fr fu (fun e => (wd2.dT p wd2.tt.op).1 e.symm) (fun e => (wd2.dT p wd2.tt.op).2 e.symm)) ((m1'.same s34).fr fu pO) (by omega) t5⟩
      rintro σ' G3 ⟨n1, n2, p, ra, O1, O2, OT, rfl, wd3⟩
      have easy := wd3.up fun q h => lv_up (show 2 + 5 * i + 2 ≤ 2 + 5 * (i + 1) by omega) h
      obtain ⟨ps1, _, _, xs1, hq1, hx1, lx1⟩ := wd3.m1.len
      obtain ⟨ps2, _, _, xs2, hq2, hx2, lx2⟩ := wd3.m2.len
      refine ⟨_, rfl, rfl, _, rfl, ite2 (fun _ => ?_) (fun _ => ⟨_, _, n1, n2, p, ra, O1, O2, OT, rfl, easy⟩)⟩
      refine ⟨_, rfl, q1, _, 1, _, rfl, rfl, SqL.of hq1, rfl, ps1, xs1, rfl, .inl (SqL.of hx1), _, _, rfl, rfl, _, rfl, ite2 (fun e => ?_) (fun _ => ⟨_, _, n1, n2, p, ra, O1, O2, OT, rfl, easy⟩)⟩
      have n5 : n1 < 5 := by have := of_decide_eq_true e; omega
      have l2 := wd3.l2
      refine ⟨_, rfl, _, rfl, _, rfl, q2, _, 1, _, rfl, rfl, SqL.of hq2, rfl, ps2, xs2, rfl, .inl (SqL.of hx2), _, rfl, O1, OT, q1, p, a, cl, k, n1, n2, ra, Lv M (2 + 5 * i + 2), Lv M (2 + 5 * i + 2 + 1), Lv M (2 + 5 * (i + 1)), congrArg (fun z : Nat => [V.ref q1, V.ref p, V.int (z : Int), V.ref a]) lx2, wd3.m1, wd3.tt, wd3.fe, wd3.d1, wd3.dT, wd3.x1T, by omega, by omega, k4, lv_shd m0 bM (by omega) (by omega), fun G4 O1' OT' ra' sub1 subT x f4 fe4 m1' t' => ?_⟩
      exact ⟨_, _, n1 + 1, n2, p, ra', O1', O2, OT', rfl, wd3.one (fun q h => lv_up (by omega) h) sub1 subT x f4 fe4 m1' (by omega) t'⟩
    rintro σ G9 ⟨o6, o7, n1, n2, p, ra, O1, O2, OT, rfl, wd9⟩
    have wd9 : Wd G9 a cl pq q1 q2 p k n n1 n2 ra O1 O2 OT P (Lv M 20) := wd9.up fun q h => lv_up (by omega) h
    refine ⟨_, rfl, a, cl, 5, rfl, wd9.fe, by decide, by decide, fun y G10 y0 y1 f10 b10 => ?_⟩
    obtain ⟨y, rfl⟩ : ∃ y' : Nat, y = (y' : Int) := ⟨y.toNat, by omega⟩
    refine ⟨y, rfl, by omega, by omega, for_range (n := y) (fun i σ G => ∃ (o6 o8 : Option V) (p : Addr) (ra : Nat → Addr) (O1 O2 OT : Addr → Prop), σ = [some (.ref sc), some (.ref a), some (.ref pq), some (.ref q1), some (.ref q2), some (.ref p), o6, o7, o8, none, none, none, none, none, none] ∧ Wd G a cl pq q1 q2 p k n n1 n2 ra O1 O2 OT P (Lv M (20 + 3 * i))) ⟨o6, none, p, ra, O1, O2, OT, rfl, wd9.draw b10 f10⟩ ?_ ?_⟩
    · rintro i σ G hi ⟨o6, o8, p, ra, O1, O2, OT, rfl, wd⟩
      have i3 : i ≤ 4 := by omega
      have l1 := wd.l1
      have l2 := wd.l2
      refine ⟨_, rfl, a, cl, 2, rfl, wd.fe, by decide, by decide, fun y G1 _ _ f1 b1 => ?_⟩
      have wd1 := wd.draw b1 f1
      have easy := wd1.up fun q h => lv_up (show 20 + 3 * i ≤ 20 + 3 * (i + 1) by omega) h
      obtain ⟨ps1, _, _, xs1, hq1, hx1, lx1⟩ := wd1.m1.len
      obtain ⟨ps2, _, _, xs2, hq2, hx2, lx2⟩ := wd1.m2.len
      have stp := fun j (h : j ≤ 2) => lv_stp m0 bM (k := 20 + 3 * i + j) (by omega)
      refine ⟨rfl, _, rfl, ite2 (fun _ => ⟨_, rfl, q2, _, 1, _, rfl, rfl, SqL.of hq2, rfl, ps2, xs2, rfl, .inl (SqL.of hx2), _, _, rfl, rfl, _, rfl, ite2 (fun e => ?_) (fun _ => ?_)⟩) (fun _ => ?_)⟩
      · have n0 : 0 < n2 := by have := of_decide_eq_true e; omega
        refine ⟨_, rfl, _, rfl, q2, _, 1, _, rfl, rfl, SqL.of hq2, rfl, ps2, xs2, rfl, .inl (SqL.of hx2), a, cl, n2, congrArg (fun z : Nat => [V.ref a, V.int (z : Int)]) lx2, f1, n0, by omega, fun dd kd x y g G2 f2 b2 hd hx hy fa => ?_⟩
        have wd2 := wd1.draw b2 f2
        refine ⟨_, rfl, _, rfl, O2, q2, dd, k, n2, _, _, _, kd, x, y, g, rfl, wd2.m2, hd, hx, hy, by omega, k4, stp 0 (by decide), stp 1 (by decide), fa, fun G3 O2' sub f3 m2' => ?_⟩
        have wd3 := wd2.sec (fun q h => lv_up (by omega) h) sub f3 m2'
        refine ⟨_, rfl, _, rfl, OT, p, dd, n1, n2, ra, _, _, kd, x, y, g, rfl, wd3.tt, hd.fr f3, hx, hy, by omega, by omega, stp 2 (by decide), fa, fun G4 f4 t4 => ?_⟩
        exact ⟨_, _, p, ra, O1, O2', OT, rfl, wd3.tab (fun q h => lv_up (by omega) h) (fun b z => .inl z) f4 t4⟩
      all_goals
        refine ⟨_, rfl, q1, _, 1, _, rfl, rfl, SqL.of hq1, rfl, ps1, xs1, rfl, .inl (SqL.of hx1), _, _, rfl, rfl, _, rfl, ite2 (fun e => ?_) (fun _ => ⟨_, _, p, ra, O1, O2, OT, rfl, easy⟩)⟩
        have n0 : 0 < n1 := by have := of_decide_eq_true e; omega
        refine ⟨_, rfl, _, rfl, q1, _, 1, _, rfl, rfl, SqL.of hq1, rfl, ps1, xs1, rfl, .inl (SqL.of hx1), a, cl, n1, congrArg (fun z : Nat => [V.ref a, V.int (z : Int)]) lx1, f1, n0, by omega, fun dd kd x y g G2 f2 b2 hd hx hy fa => ?_⟩
        have wd2 := wd1.draw b2 f2
        refine ⟨_, rfl, _, rfl, O1, q1, dd, k, n1, _, _, _, kd, x, y, g, rfl, wd2.m1, hd, hx, hy, by omega, k4, stp 0 (by decide), stp 1 (by decide), fa, fun G3 O1' sub f3 m1' => ?_⟩
        have wd3 := wd2.fst (fun q h => lv_up (by omega) h) sub f3 m1'
        refine ⟨_, rfl, _, rfl, OT, p, dd, n1, n2, ra, _, _, kd, x, y, g, rfl, wd3.tt, hd.fr f3, hx, hy, by omega, by omega, stp 2 (by decide), fa, fun G4 OT' ra' subT f4 t4 => ?_⟩
        exact ⟨_, _, p, ra', O1', O2, OT', rfl, wd3.tab (fun q h => lv_up (by omega) h) subT f4 t4⟩
    rintro σ G11 ⟨o6, o8, p, ra, O1, O2, OT, rfl, wd11⟩
    have wd11 : Wd G11 a cl pq q1 q2 p k n n1 n2 ra O1 O2 OT P (Lv M 35) := wd11.up fun q h => lv_up (by omega) h
    have l1 := wd11.l1
    have l2 := wd11.l2
    obtain ⟨ps2, _, _, xs2, hq2, hx2, lx2⟩ := wd11.m2.len
    refine ⟨_, rfl, _, rfl, _, rfl, q2, _, 1, _, rfl, rfl, SqL.of hq2, rfl, ps2, xs2, rfl, .inl (SqL.of hx2), OT, a, cl, p, n1, n2, ra, Lv M 35, Lv M 36, congrArg (fun z : Nat => [V.ref a, V.ref p, V.int (z : Int)]) lx2, wd11.fe, wd11.tt, fun b z => (wd11.dT b z).1, by omega, by omega, lv_stp m0 bM (by decide), lvS0 _ (by decide), lvS1 _ (by decide), fun pr G12 acc f12 fe12 hpr hacc => ?_⟩
    have wd12 := wd11.frd f12 fe12
    have macs : ∀ {M : Int} {k : Nat} {m : Mc}, M ≠ 0 → Bt 430 M → k ≤ 60 → McS m (Lv M k) → MacB m := fun m0 bM hk h => mac_of m0 bM hk h
    refine ⟨pr, rfl, ⟨_, SqL.of hpr⟩, for_it (walk_list (K := K) (a := pr) (xs := acc)) (fun i σ G => ∃ o9, σ = [some (.ref sc), some (.ref a), some (.ref pq), some (.ref q1), some (.ref q2), some (.ref p), o6, o7, o8, o9, none, none, none, none, none] ∧ Same G12 G) ⟨none, rfl, Same.refl _⟩ (fun i σ G _ h => by obtain ⟨_, _, s⟩ := h; exact SqL.of (s _ _ hpr)) ?_ ?_⟩
    · rintro i x σ G G' hi ⟨o9, rfl, s13⟩ ⟨rfl, hx⟩
      have pap := (hacc x (List.mem_of_getElem? hx)).fr (Same.fr (W := Emp) s13) fun _ _ => id
      obtain ⟨pp, h, wdt, U, rfl, hh, hw, hU, sU⟩ := pap.at (C := C)
      have wd13 := wd12.same s13
      obtain ⟨mA, kA, nA, aA, sA⟩ := wd13.m1.at (C := C)
      obtain ⟨mB, kB, nB, aB, sB⟩ := wd13.m2.at (C := C)
      refine ⟨_, rfl, _, rfl, _, rfl, Emp, q1, q2, pp, mA, mB, h, wdt, U, rfl, aA, aB, hU, alc_emp, hh, hw, by omega, by omega, by omega, by omega, by omega, macs m0 bM (by decide) sA, macs m0 bM (by decide) sB, lv_tab m0 bM (by decide) sU, fun G14 s14 => ⟨true, rfl, iteF ?_⟩⟩
      exact ⟨_, rfl, s13.trans s14⟩
    rintro σ G13 ⟨o9, rfl, s13⟩
    have wd13 := wd12.same s13
    refine ⟨_, rfl, _, rfl, P, a, cl, pq, k, n, rfl, wd13.fe, wd13.pl, wd13.dP, k1, k4, by omega, fun r G14 P' f14 fe14 hp14 => ?_⟩
    have wd14 := wd13.frd f14 fe14
    refine ⟨P', r, k, n, rfl, hp14, k4, by omega, fun q3 G15 M' O3 m0' bM' s15 nw3 m3 => ?_⟩
    have wd15 := wd14.same s15
    have m3 := m3.mono (S' := Lv M' 0) fun q h => lv0 h
    obtain ⟨mA, kA, nA, aA, sA⟩ := wd15.m1.at (C := C)
    obtain ⟨mB, kB, nB, aB, sB⟩ := wd15.m2.at (C := C)
    obtain ⟨mD, kD, nD', aD, sD⟩ := m3.at (C := C)
    obtain ⟨U, hU, sU⟩ := wd15.tt.at (C := C)
    have bA := macs m0 bM (by decide) sA
    have bB := macs m0 bM (by decide) sB
    have bD := macs m0' bM' (by decide) sD
    have bU : TabB n1 n2 6000 7000 U := lv_tab m0 bM (by decide) sU
    obtain ⟨ps, pt, pe, pb, hpl, _⟩ := wd15.pl.ex
    obtain ⟨ps1, _, _, xs1, hq1, hx1, lx1⟩ := wd15.m1.len
    have e : ∀ {v : V} {d : Dat} {G : Hp}, At C Emp G15 v d → Same G15 G → At C Emp G v d := fun h s => h.same s
    refine ⟨fun σ' G => σ' = [some (.ref sc), some (.ref a), some (.ref pq), some (.ref q1), some (.ref q2), some (.ref p), o6, o7, o8, o9, some (.ref q3), none, none, none, none] ∧ Same G15 G, ?_, ?_⟩
    · refine ⟨_, rfl, _, rfl, _, rfl, Emp, q1, q3, p, mA, mD, n1, n2, U, rfl, aA, aD, hU, alc_emp, by omega, by omega, by omega, by omega, by omega, by omega, by omega, bA, bD, bU, fun G16 s16 => ⟨true, rfl, iteF ?_⟩⟩
      refine ⟨_, rfl, _, rfl, _, rfl, Emp, q2, q1, p, mB, mA, n1, n2, U, rfl, e aB s16, e aA s16, e hU s16, alc_emp, by omega, by omega, by omega, by omega, by omega, by omega, by omega, bB, bA, bU, fun G17 s17 => ⟨true, rfl, iteF ⟨rfl, s16.trans s17⟩⟩⟩
    rintro σ' G16 ⟨rfl, s16⟩
    refine ⟨_, rfl, pq, _, 0, _, rfl, rfl, SqT.of (s16 _ _ hpl), rfl, (by show 0 ≤ sizeLine; decide), fun v1 nv1 => ?_⟩
    have sv1 : Same G16 (upd G16 v1 (.lst [])) := Same.upd nv1
    have hv1 : (upd G16 v1 (.lst [])) v1 = some (.lst []) := upd_same
    generalize upd G16 v1 (.lst []) = G17 at *
    have s17 := s16.trans sv1
    refine ⟨_, rfl, pq, _, 0, _, rfl, rfl, SqT.of (s17 _ _ hpl), rfl, k, rfl, by omega, by omega, fun D nD => ?_⟩
    refine lc_it (walk_range (lo := 0) (n := k)) (fun i G => Bld C Emp Emp G17 D (rng i fun _ => .lst []) G) (bld0 nD) (fun _ _ _ _ => trivial) ?_ ?_
    · rintro i x G G' hi bd ⟨rfl, rfl⟩
      refine ⟨rfl, (by show 0 ≤ sizeLine; decide), fun r nr => ?_⟩
      have sr : Same G' (upd G' r (.lst [])) := Same.upd nr
      obtain ⟨acc, a1, a2, a3⟩ := bd.step (d := .lst []) nD (Same.keep sr) (fun _ z => z.elim) id (.lst (xs := []) upd_same ((bd.alc (N := Emp) alc_emp).fresh nr) rfl items0)
      refine ⟨acc, a1, by rw [a2, rng_len]; exact small1000 (by omega), ?_⟩
      rw [rng_succ]
      exact a3
    rintro G18 bd
    have s18 := s17.trans bd.k.same
    have hD := bd.done (fun z => z.elim)
    refine ⟨(by show 0 ≤ sizeLine; decide), fun v3 nv3 => ?_⟩
    have sv3 : Same G18 (upd G18 v3 (.lst [])) := Same.upd nv3
    have hv3 : (upd G18 v3 (.lst [])) v3 = some (.lst []) := upd_same
    generalize upd G18 v3 (.lst []) = G19 at *
    refine ⟨(by show 4 ≤ sizeLine; decide), fun vv nvv => ?_⟩
    have sv : Same G19 (upd G19 vv (.lst [.int (k : Int), .ref v1, .ref D, .ref v3])) := Same.upd nvv
    have hvv : (upd G19 vv (.lst [.int (k : Int), .ref v1, .ref D, .ref v3])) vv = some (.lst [.int (k : Int), .ref v1, .ref D, .ref v3]) := upd_same
    generalize upd G19 vv (.lst [.int (k : Int), .ref v1, .ref D, .ref v3]) = G20 at *
    have s20 := s18.trans (sv3.trans sv)
    have void : At C Emp G20 (.ref vv) (partsK ⟨k, 0, fun _ => 0, fun _ _ _ => 0, fun _ => 0⟩) := .lst hvv id rfl (itemsC (.int _) (itemsC (.lst (xs := []) (((bd.k.same.trans sv3).trans sv) _ _ hv1) id rfl items0) (itemsC (hD.same (sv3.trans sv)) (items1 (.lst (xs := []) (sv _ _ hv3) id rfl items0)))))
    have bV : MacB ⟨k, 0, fun _ => 0, fun _ _ _ => 0, fun _ => 0⟩ := macs (M := 1) (k := 0) (by decide) (show (1 : Int).natAbs < 2 ^ 430 from Nat.one_lt_two_pow (by decide)) (by decide) ⟨fun j hj => absurd hj (Nat.not_lt_zero j), fun j hj => absurd hj (Nat.not_lt_zero j), fun x _ i hi => absurd hi (Nat.not_lt_zero i)⟩
    have none0 : ∀ {h : Nat}, TabB h 0 6000 7000 fun _ _ => 0 := fun {h} => ⟨1, by decide, show (1 : Int).natAbs < 2 ^ 6000 from Nat.one_lt_two_pow (by decide), fun i _ j hj => absurd hj (by omega)⟩
    refine ⟨fun σ' G => σ' = [some (.ref sc), some (.ref a), some (.ref pq), some (.ref q1), some (.ref q2), some (.ref p), o6, o7, o8, o9, some (.ref q3), some (.ref vv), none, none, none] ∧ Same G20 G, ?_, ?_⟩
    · refine ⟨_, rfl, _, rfl, (by show 0 ≤ sizeLine; decide), fun e0 ne0 => ?_⟩
      have se : Same G20 (upd G20 e0 (.lst [])) := Same.upd ne0
      have he : At C Emp (upd G20 e0 (.lst [])) (.ref e0) (prT 0 0 fun _ _ => 0) := .lst (xs := []) upd_same id rfl items0
      generalize upd G20 e0 (.lst []) = G21 at *
      refine ⟨Emp, vv, q2, e0, _, mB, 0, 0, _, rfl, void.same se, e aB (s20.trans se), he, alc_emp, by decide, by decide, by show k = mB.k; omega, k1, k4, Nat.zero_le _, by omega, bV, bB, none0, fun G22 s22 => ⟨true, rfl, iteF ?_⟩⟩
      have s022 := s20.trans (se.trans s22)
      refine ⟨_, rfl, _, rfl, _, rfl, q1, _, 1, _, rfl, rfl, SqL.of (s022 _ _ hq1), rfl, ps1, rfl, ⟨_, SqL.of (s022 _ _ hx1)⟩, fun D2 nD2 => ?_⟩
      refine lc_it (walk_list (K := K) (a := ps1) (xs := xs1)) (fun i G => Bld C Emp Emp G22 D2 (rng i fun _ => .lst []) G) (bld0 nD2) (fun i G _ b => SqL.of (b.k.same _ _ (s022 _ _ hx1))) ?_ ?_
      · rintro i x G G' hi bd ⟨rfl, _⟩
        refine ⟨rfl, (by show 0 ≤ sizeLine; decide), fun r nr => ?_⟩
        have sr : Same G' (upd G' r (.lst [])) := Same.upd nr
        obtain ⟨acc, a1, a2, a3⟩ := bd.step (d := .lst []) nD2 (Same.keep sr) (fun _ z => z.elim) id (.lst (xs := []) upd_same ((bd.alc (N := Emp) alc_emp).fresh nr) rfl items0)
        refine ⟨acc, a1, by rw [a2, rng_len]; exact small1000 (by omega), ?_⟩
        rw [rng_succ]
        exact a3
      · rintro G23 bd2
        rw [lx1] at bd2
        have s23 := bd2.k.same
        have hD2 : At C Emp G23 (.ref D2) (prT n1 0 fun _ _ => 0) := bd2.done (fun z => z.elim)
        have sv23 := (se.trans s22).trans s23
        exact ⟨Emp, q1, vv, D2, mA, _, n1, 0, _, rfl, e aA (s20.trans sv23), void.same sv23, hD2, alc_emp, by omega, by decide, kA, by omega, by omega, by omega, Nat.zero_le _, bA, bV, none0, fun G24 s24 => ⟨true, rfl, iteF ⟨rfl, sv23.trans s24⟩⟩⟩
    rintro σ' G21 ⟨rfl, s21⟩
    refine ⟨_, rfl, _, rfl, (by show 0 ≤ sizeLine; decide), fun e0 ne0 => ?_⟩
    have se : Same G21 (upd G21 e0 (.lst [])) := Same.upd ne0
    have he : At C Emp (upd G21 e0 (.lst [])) (.ref e0) (prT 0 0 fun _ _ => 0) := .lst (xs := []) upd_same id rfl items0
    generalize upd G21 e0 (.lst []) = G22 at *
    refine ⟨Emp, vv, vv, e0, _, _, 0, 0, _, rfl, void.same (s21.trans se), void.same (s21.trans se), he, alc_emp, by decide, by decide, rfl, k1, k4, Nat.zero_le _, Nat.zero_le _, bV, bV, none0, fun G23 s23 => ⟨true, rfl, iteT ?_⟩⟩
    have s023 := s20.trans (s21.trans (se.trans s23))
    exact ⟨_, rfl, _, rfl, _, rfl, Emp, q1, q2, p, mA, mB, n1, n2, U, rfl, e aA s023, e aB s023, e hU s023, alc_emp, by omega, by omega, by omega, by omega, by omega, by omega, by omega, bA, bB, bU, fun G24 _ => kend G24⟩
end
end RX

set_option Elab.async false
set_option maxRecDepth 100000
namespace RX
open PySem L2

set_option maxHeartbeats 0 in
theorem all_mk {l : PySem.W.OpenLaw} {w : World} {K : PySem.W.Frag} {h : Heap} {mg : Str → Option Value} {fa C CM fTp fNx fGr fEn fSh fLo fPl fBy fSb fSp fRl fIw fIc fRb fRs fMa fTb fJu fHo fRi fLe fCh fPr fDe fUs fUr fSw fSt fBo fPn fRe fOv fPt fCo fSo fUn fPp fL fI fE fMi fSi fFi qSi TT : Addr} {rSi : List Value} (X : K.In h) (G : h.Ns mainGlobals mg) (hfa : mg "law" = some (.ref fa)) (ht : l.prog.given.tree = none)
    {odTp odNx odGr odEn odSh odLo odPl odBy odSb odSp odRl odIw odIc odRb odRs odMa odTb odJu odHo odRi odLe odCh odPr odDe odUs odUr odSw odSt odBo odPn odRe odOv odPt odCo odSo odUn odPp odL odI odE odMi odSi odFi odT anTp anNx anGr anEn anSh anLo anPl anBy anSb anSp anRl anIw anIc anRb anRs anMa anTb anJu anHo anRi anLe anCh anPr anDe anUs anUr anSw anSt anBo anPn anRe anOv anPt anCo anSo anUn anPp anL anI anE anMi anSi anFi : Option Addr} {slTp slNx slGr slEn slSh slLo slPl slBy slSb slSp slRl slIw slIc slRb slRs slMa slTb slJu slHo slRi slLe slCh slPr slDe slUs slUr slSw slSt slBo slPn slRe slOv slPt slCo slSo slUn slPp slL slI slE slMi slSi slFi slT : Array (Option Value)} {ocTp kVTp dcTp pmTp cdTp ctTp ocNx kVNx dcNx pmNx cdNx ctNx ocGr kVGr dcGr pmGr cdGr ctGr ocEn kVEn dcEn pmEn cdEn ctEn ocSh kVSh dcSh pmSh cdSh ctSh ocLo kVLo dcLo pmLo cdLo ctLo ocPl kVPl dcPl pmPl cdPl ctPl ocBy kVBy dcBy pmBy cdBy ctBy ocSb kVSb dcSb pmSb cdSb ctSb ocSp kVSp dcSp pmSp cdSp ctSp ocRl kVRl dcRl pmRl cdRl ctRl ocIw kVIw dcIw pmIw cdIw ctIw ocIc kVIc dcIc pmIc cdIc ctIc ocRb kVRb dcRb pmRb cdRb ctRb ocRs kVRs dcRs pmRs cdRs ctRs ocMa kVMa dcMa pmMa cdMa ctMa ocTb kVTb dcTb pmTb cdTb ctTb ocJu kVJu dcJu pmJu cdJu ctJu ocHo kVHo dcHo pmHo cdHo ctHo ocRi kVRi dcRi pmRi cdRi ctRi ocLe kVLe dcLe pmLe cdLe ctLe ocCh kVCh dcCh pmCh cdCh ctCh ocPr kVPr dcPr pmPr cdPr ctPr ocDe kVDe dcDe pmDe cdDe ctDe ocUs kVUs dcUs pmUs cdUs ctUs ocUr kVUr dcUr pmUr cdUr ctUr ocSw kVSw dcSw pmSw cdSw ctSw ocSt kVSt dcSt pmSt cdSt ctSt ocBo kVBo dcBo pmBo cdBo ctBo ocPn kVPn dcPn pmPn cdPn ctPn ocRe kVRe dcRe pmRe cdRe ctRe ocOv kVOv dcOv pmOv cdOv ctOv ocPt kVPt dcPt pmPt cdPt ctPt ocCo kVCo dcCo pmCo cdCo ctCo ocSo kVSo dcSo pmSo cdSo ctSo ocUn kVUn dcUn pmUn cdUn ctUn ocPp kVPp dcPp pmPp cdPp ctPp ocL kVL dcL pmL cdL ctL ocI kVI dcI pmI cdI ctI ocE kVE dcE pmE cdE ctE ocMi kVMi dcMi pmMi cdMi ctMi ocSi kVSi dcSi pmSi cdSi ctSi ocFi kVFi dcFi pmFi cdFi ctFi ocT : Value} {tkT : Tok} {nT0 : Nat} 
    (xGcd : PySem.W.nsIn K mainGlobals "gcd" = some (some (.builtin "math.gcd")))
    (xLcm : PySem.W.nsIn K mainGlobals "lcm" = some (some (.builtin "math.lcm")))
    (aC : PySem.W.nsIn K mainGlobals "Ratio" = some (some (.ref C)))
    (pgC : PySem.W.plainGet K C Str.empty = true)
    (hdC : PySem.W.hasDictIn K C = true)
    (poC : PySem.W.plainOver K C = true)
    (saC : PySem.W.findIn K (.ref C) "__setattr__" = some (some (.builtin "object.__setattr__")))
    (nCtop : PySem.W.findIn K (.ref C) "top" = some none)
    (nCbottom : PySem.W.findIn K (.ref C) "bottom" = some none)
    (mkC : PySem.W.makesIn K C = true)
    (kcC : PySem.W.keepIn K (.ref C) = true)
    (xaC : PySem.W.findIn K (.ref C) "__class__" = some (some (.builtin "object.__class__")))
    (xmC : PySem.W.mroIn K C (.type "object") = some true)
    (aI : PySem.W.findIn K (.ref C) "__init__" = some (some (.ref fI)))
    (iI : PySem.W.isFn K (.ref fI) = true)
    (lI : K.lookup fI = some ⟨ocI, odI, .func (PySem.W.fnOf "__init__" "Ratio.__init__" (defArgs sInit) (defBody sInit) (defScope sInit) (.ref TT) kVI dcI pmI anI cdI ctI), slI⟩)
    (cI : PySem.W.codeIn K cdI "Ratio.__init__" = true)
    (kI : PySem.W.keepIn K (.ref fI) = true)
    (lT : K.lookup TT = some ⟨ocT, odT, .seq #[.int 1 tkT] nT0, slT⟩)
    (aE : PySem.W.findIn K (.ref C) "__eq__" = some (some (.ref fE)))
    (iE : PySem.W.isFn K (.ref fE) = true)
    (lE : K.lookup fE = some ⟨ocE, odE, .func (PySem.W.fnOf "__eq__" "Ratio.__eq__" (defArgs sEq) (defBody sEq) (defScope sEq) .none kVE dcE pmE anE cdE ctE), slE⟩)
    (cE : PySem.W.codeIn K cdE "Ratio.__eq__" = true)
    (kE : PySem.W.keepIn K (.ref fE) = true)
    (aCM : PySem.W.nsIn K mainGlobals "Machine" = some (some (.ref CM)))
    (pgCM : PySem.W.plainGet K CM Str.empty = true)
    (hdCM : PySem.W.hasDictIn K CM = true)
    (poCM : PySem.W.plainOver K CM = true)
    (saCM : PySem.W.findIn K (.ref CM) "__setattr__" = some (some (.builtin "object.__setattr__")))
    (nCMletters : PySem.W.findIn K (.ref CM) "letters" = some none)
    (nCMstart : PySem.W.findIn K (.ref CM) "start" = some none)
    (nCMsteps : PySem.W.findIn K (.ref CM) "steps" = some none)
    (nCMend : PySem.W.findIn K (.ref CM) "end" = some none)
    (nCM_above : PySem.W.findIn K (.ref CM) "_above" = some none)
    (mkCM : PySem.W.makesIn K CM = true)
    (kcCM : PySem.W.keepIn K (.ref CM) = true)
    (aMi : PySem.W.findIn K (.ref CM) "__init__" = some (some (.ref fMi)))
    (iMi : PySem.W.isFn K (.ref fMi) = true)
    (lMi : K.lookup fMi = some ⟨ocMi, odMi, .func (PySem.W.fnOf "__init__" "Machine.__init__" (defArgs sMi) (defBody sMi) (defScope sMi) .none kVMi dcMi pmMi anMi cdMi ctMi), slMi⟩)
    (cMi : PySem.W.codeIn K cdMi "Machine.__init__" = true)
    (kMi : PySem.W.keepIn K (.ref fMi) = true)
    (aSi : PySem.W.findIn K (.ref CM) "size" = some (some (.ref qSi)))
    (g1Si : PySem.W.specialIn K (.ref qSi) "__get__" = some (some (.builtin "property.__get__")))
    (g2Si : PySem.W.takesIn K (.ref qSi) = some true)
    (g3Si : PySem.W.recIn K qSi "property" = some (.ref fSi :: rSi))
    (lSi : K.lookup fSi = some ⟨ocSi, odSi, .func (PySem.W.fnOf "size" "Machine.size" (defArgs sSi) (defBody sSi) (defScope sSi) .none kVSi dcSi pmSi anSi cdSi ctSi), slSi⟩)
    (cSi : PySem.W.codeIn K cdSi "Machine.size" = true)
    (kSi : PySem.W.keepIn K (.ref fSi) = true)
    (aFi : PySem.W.findIn K (.ref CM) "_fits" = some (some (.ref fFi)))
    (iFi : PySem.W.isFn K (.ref fFi) = true)
    (lFi : K.lookup fFi = some ⟨ocFi, odFi, .func (PySem.W.fnOf "_fits" "Machine._fits" (defArgs sFit) (defBody sFit) (defScope sFit) .none kVFi dcFi pmFi anFi cdFi ctFi), slFi⟩)
    (cFi : PySem.W.codeIn K cdFi "Machine._fits" = true)
    (kFi : PySem.W.keepIn K (.ref fFi) = true)
    (xn : PySem.W.specialIn K (.builtin "object.__class__") "__get__" = some (some (.builtin "getset_descriptor.__get__")))
    (xt : PySem.W.takesIn K (.builtin "object.__class__") = some true)
    (aTp : PySem.W.nsIn K mainGlobals "_law_tape" = some (some (.ref fTp)))
    (lTp : K.lookup fTp = some ⟨ocTp, odTp, .func (PySem.W.fnOf "_law_tape" "_law_tape" (defArgs sTape) (defBody sTape) (defScope sTape) .none kVTp dcTp pmTp anTp cdTp ctTp), slTp⟩)
    (cTp : PySem.W.codeIn K cdTp "_law_tape" = true)
    (kTp : PySem.W.keepIn K (.ref fTp) = true)
    (aNx : PySem.W.nsIn K mainGlobals "_law_next" = some (some (.ref fNx)))
    (lNx : K.lookup fNx = some ⟨ocNx, odNx, .func (PySem.W.fnOf "_law_next" "_law_next" (defArgs sNext) (defBody sNext) (defScope sNext) .none kVNx dcNx pmNx anNx cdNx ctNx), slNx⟩)
    (cNx : PySem.W.codeIn K cdNx "_law_next" = true)
    (kNx : PySem.W.keepIn K (.ref fNx) = true)
    (aGr : PySem.W.nsIn K mainGlobals "_law_great" = some (some (.ref fGr)))
    (lGr : K.lookup fGr = some ⟨ocGr, odGr, .func (PySem.W.fnOf "_law_great" "_law_great" (defArgs sGreat) (defBody sGreat) (defScope sGreat) .none kVGr dcGr pmGr anGr cdGr ctGr), slGr⟩)
    (cGr : PySem.W.codeIn K cdGr "_law_great" = true)
    (kGr : PySem.W.keepIn K (.ref fGr) = true)
    (aEn : PySem.W.nsIn K mainGlobals "_law_entry" = some (some (.ref fEn)))
    (lEn : K.lookup fEn = some ⟨ocEn, odEn, .func (PySem.W.fnOf "_law_entry" "_law_entry" (defArgs sEntry) (defBody sEntry) (defScope sEntry) .none kVEn dcEn pmEn anEn cdEn ctEn), slEn⟩)
    (cEn : PySem.W.codeIn K cdEn "_law_entry" = true)
    (kEn : PySem.W.keepIn K (.ref fEn) = true)
    (aSh : PySem.W.nsIn K mainGlobals "_law_shared" = some (some (.ref fSh)))
    (lSh : K.lookup fSh = some ⟨ocSh, odSh, .func (PySem.W.fnOf "_law_shared" "_law_shared" (defArgs sShared) (defBody sShared) (defScope sShared) .none kVSh dcSh pmSh anSh cdSh ctSh), slSh⟩)
    (cSh : PySem.W.codeIn K cdSh "_law_shared" = true)
    (kSh : PySem.W.keepIn K (.ref fSh) = true)
    (aLo : PySem.W.nsIn K mainGlobals "_law_lowest" = some (some (.ref fLo)))
    (lLo : K.lookup fLo = some ⟨ocLo, odLo, .func (PySem.W.fnOf "_law_lowest" "_law_lowest" (defArgs sLowest) (defBody sLowest) (defScope sLowest) .none kVLo dcLo pmLo anLo cdLo ctLo), slLo⟩)
    (cLo : PySem.W.codeIn K cdLo "_law_lowest" = true)
    (kLo : PySem.W.keepIn K (.ref fLo) = true)
    (aPl : PySem.W.nsIn K mainGlobals "_law_plus" = some (some (.ref fPl)))
    (lPl : K.lookup fPl = some ⟨ocPl, odPl, .func (PySem.W.fnOf "_law_plus" "_law_plus" (defArgs sPlus) (defBody sPlus) (defScope sPlus) .none kVPl dcPl pmPl anPl cdPl ctPl), slPl⟩)
    (cPl : PySem.W.codeIn K cdPl "_law_plus" = true)
    (kPl : PySem.W.keepIn K (.ref fPl) = true)
    (aBy : PySem.W.nsIn K mainGlobals "_law_by" = some (some (.ref fBy)))
    (lBy : K.lookup fBy = some ⟨ocBy, odBy, .func (PySem.W.fnOf "_law_by" "_law_by" (defArgs sBy) (defBody sBy) (defScope sBy) .none kVBy dcBy pmBy anBy cdBy ctBy), slBy⟩)
    (cBy : PySem.W.codeIn K cdBy "_law_by" = true)
    (kBy : PySem.W.keepIn K (.ref fBy) = true)
    (aSb : PySem.W.nsIn K mainGlobals "_law_sum_by" = some (some (.ref fSb)))
    (lSb : K.lookup fSb = some ⟨ocSb, odSb, .func (PySem.W.fnOf "_law_sum_by" "_law_sum_by" (defArgs sSumBy) (defBody sSumBy) (defScope sSumBy) .none kVSb dcSb pmSb anSb cdSb ctSb), slSb⟩)
    (cSb : PySem.W.codeIn K cdSb "_law_sum_by" = true)
    (kSb : PySem.W.keepIn K (.ref fSb) = true)
    (aSp : PySem.W.nsIn K mainGlobals "sum_of_products" = some (some (.ref fSp)))
    (lSp : K.lookup fSp = some ⟨ocSp, odSp, .func (PySem.W.fnOf "sum_of_products" "sum_of_products" (defArgs sSop) (defBody sSop) (defScope sSop) .none kVSp dcSp pmSp anSp cdSp ctSp), slSp⟩)
    (cSp : PySem.W.codeIn K cdSp "sum_of_products" = true)
    (kSp : PySem.W.keepIn K (.ref fSp) = true)
    (aRl : PySem.W.nsIn K mainGlobals "_row_led" = some (some (.ref fRl)))
    (lRl : K.lookup fRl = some ⟨ocRl, odRl, .func (PySem.W.fnOf "_row_led" "_row_led" (defArgs sRowLed) (defBody sRowLed) (defScope sRowLed) .none kVRl dcRl pmRl anRl cdRl ctRl), slRl⟩)
    (cRl : PySem.W.codeIn K cdRl "_row_led" = true)
    (kRl : PySem.W.keepIn K (.ref fRl) = true)
    (aIw : PySem.W.nsIn K mainGlobals "_is_same_way" = some (some (.ref fIw)))
    (lIw : K.lookup fIw = some ⟨ocIw, odIw, .func (PySem.W.fnOf "_is_same_way" "_is_same_way" (defArgs sSameWay) (defBody sSameWay) (defScope sSameWay) .none kVIw dcIw pmIw anIw cdIw ctIw), slIw⟩)
    (cIw : PySem.W.codeIn K cdIw "_is_same_way" = true)
    (kIw : PySem.W.keepIn K (.ref fIw) = true)
    (aIc : PySem.W.nsIn K mainGlobals "is_carry" = some (some (.ref fIc)))
    (lIc : K.lookup fIc = some ⟨ocIc, odIc, .func (PySem.W.fnOf "is_carry" "is_carry" (defArgs sIsCarry) (defBody sIsCarry) (defScope sIsCarry) .none kVIc dcIc pmIc anIc cdIc ctIc), slIc⟩)
    (cIc : PySem.W.codeIn K cdIc "is_carry" = true)
    (kIc : PySem.W.keepIn K (.ref fIc) = true)
    (aRb : PySem.W.nsIn K mainGlobals "_law_row_by" = some (some (.ref fRb)))
    (lRb : K.lookup fRb = some ⟨ocRb, odRb, .func (PySem.W.fnOf "_law_row_by" "_law_row_by" (defArgs sRowBy) (defBody sRowBy) (defScope sRowBy) .none kVRb dcRb pmRb anRb cdRb ctRb), slRb⟩)
    (cRb : PySem.W.codeIn K cdRb "_law_row_by" = true)
    (kRb : PySem.W.keepIn K (.ref fRb) = true)
    (aRs : PySem.W.nsIn K mainGlobals "_law_ratios" = some (some (.ref fRs)))
    (lRs : K.lookup fRs = some ⟨ocRs, odRs, .func (PySem.W.fnOf "_law_ratios" "_law_ratios" (defArgs sRats) (defBody sRats) (defScope sRats) .none kVRs dcRs pmRs anRs cdRs ctRs), slRs⟩)
    (cRs : PySem.W.codeIn K cdRs "_law_ratios" = true)
    (kRs : PySem.W.keepIn K (.ref fRs) = true)
    (aMa : PySem.W.nsIn K mainGlobals "_law_machine" = some (some (.ref fMa)))
    (lMa : K.lookup fMa = some ⟨ocMa, odMa, .func (PySem.W.fnOf "_law_machine" "_law_machine" (defArgs sMakeM) (defBody sMakeM) (defScope sMakeM) .none kVMa dcMa pmMa anMa cdMa ctMa), slMa⟩)
    (cMa : PySem.W.codeIn K cdMa "_law_machine" = true)
    (kMa : PySem.W.keepIn K (.ref fMa) = true)
    (aTb : PySem.W.nsIn K mainGlobals "_law_tables" = some (some (.ref fTb)))
    (lTb : K.lookup fTb = some ⟨ocTb, odTb, .func (PySem.W.fnOf "_law_tables" "_law_tables" (defArgs sTabs) (defBody sTabs) (defScope sTabs) .none kVTb dcTb pmTb anTb cdTb ctTb), slTb⟩)
    (cTb : PySem.W.codeIn K cdTb "_law_tables" = true)
    (kTb : PySem.W.keepIn K (.ref fTb) = true)
    (aJu : PySem.W.nsIn K mainGlobals "_law_judge" = some (some (.ref fJu)))
    (lJu : K.lookup fJu = some ⟨ocJu, odJu, .func (PySem.W.fnOf "_law_judge" "_law_judge" (defArgs sJudge) (defBody sJudge) (defScope sJudge) .none kVJu dcJu pmJu anJu cdJu ctJu), slJu⟩)
    (cJu : PySem.W.codeIn K cdJu "_law_judge" = true)
    (kJu : PySem.W.keepIn K (.ref fJu) = true)
    (aHo : PySem.W.nsIn K mainGlobals "_law_holds" = some (some (.ref fHo)))
    (lHo : K.lookup fHo = some ⟨ocHo, odHo, .func (PySem.W.fnOf "_law_holds" "_law_holds" (defArgs sHolds) (defBody sHolds) (defScope sHolds) .none kVHo dcHo pmHo anHo cdHo ctHo), slHo⟩)
    (cHo : PySem.W.codeIn K cdHo "_law_holds" = true)
    (kHo : PySem.W.keepIn K (.ref fHo) = true)
    (aRi : PySem.W.nsIn K mainGlobals "_law_right" = some (some (.ref fRi)))
    (lRi : K.lookup fRi = some ⟨ocRi, odRi, .func (PySem.W.fnOf "_law_right" "_law_right" (defArgs sRight) (defBody sRight) (defScope sRight) .none kVRi dcRi pmRi anRi cdRi ctRi), slRi⟩)
    (cRi : PySem.W.codeIn K cdRi "_law_right" = true)
    (kRi : PySem.W.keepIn K (.ref fRi) = true)
    (aLe : PySem.W.nsIn K mainGlobals "_law_left" = some (some (.ref fLe)))
    (lLe : K.lookup fLe = some ⟨ocLe, odLe, .func (PySem.W.fnOf "_law_left" "_law_left" (defArgs sLeft) (defBody sLeft) (defScope sLeft) .none kVLe dcLe pmLe anLe cdLe ctLe), slLe⟩)
    (cLe : PySem.W.codeIn K cdLe "_law_left" = true)
    (kLe : PySem.W.keepIn K (.ref fLe) = true)
    (aCh : PySem.W.nsIn K mainGlobals "_law_change" = some (some (.ref fCh)))
    (lCh : K.lookup fCh = some ⟨ocCh, odCh, .func (PySem.W.fnOf "_law_change" "_law_change" (defArgs sChange) (defBody sChange) (defScope sChange) .none kVCh dcCh pmCh anCh cdCh ctCh), slCh⟩)
    (cCh : PySem.W.codeIn K cdCh "_law_change" = true)
    (kCh : PySem.W.keepIn K (.ref fCh) = true)
    (aPr : PySem.W.nsIn K mainGlobals "_law_pair" = some (some (.ref fPr)))
    (lPr : K.lookup fPr = some ⟨ocPr, odPr, .func (PySem.W.fnOf "_law_pair" "_law_pair" (defArgs sPairL) (defBody sPairL) (defScope sPairL) .none kVPr dcPr pmPr anPr cdPr ctPr), slPr⟩)
    (cPr : PySem.W.codeIn K cdPr "_law_pair" = true)
    (kPr : PySem.W.keepIn K (.ref fPr) = true)
    (aDe : PySem.W.nsIn K mainGlobals "_law_deed" = some (some (.ref fDe)))
    (lDe : K.lookup fDe = some ⟨ocDe, odDe, .func (PySem.W.fnOf "_law_deed" "_law_deed" (defArgs sDeed) (defBody sDeed) (defScope sDeed) .none kVDe dcDe pmDe anDe cdDe ctDe), slDe⟩)
    (cDe : PySem.W.codeIn K cdDe "_law_deed" = true)
    (kDe : PySem.W.keepIn K (.ref fDe) = true)
    (aUs : PySem.W.nsIn K mainGlobals "_law_unseen" = some (some (.ref fUs)))
    (lUs : K.lookup fUs = some ⟨ocUs, odUs, .func (PySem.W.fnOf "_law_unseen" "_law_unseen" (defArgs sUnseen) (defBody sUnseen) (defScope sUnseen) .none kVUs dcUs pmUs anUs cdUs ctUs), slUs⟩)
    (cUs : PySem.W.codeIn K cdUs "_law_unseen" = true)
    (kUs : PySem.W.keepIn K (.ref fUs) = true)
    (aUr : PySem.W.nsIn K mainGlobals "_law_unreached" = some (some (.ref fUr)))
    (lUr : K.lookup fUr = some ⟨ocUr, odUr, .func (PySem.W.fnOf "_law_unreached" "_law_unreached" (defArgs sUnreached) (defBody sUnreached) (defScope sUnreached) .none kVUr dcUr pmUr anUr cdUr ctUr), slUr⟩)
    (cUr : PySem.W.codeIn K cdUr "_law_unreached" = true)
    (kUr : PySem.W.keepIn K (.ref fUr) = true)
    (aSw : PySem.W.nsIn K mainGlobals "_law_shadow" = some (some (.ref fSw)))
    (lSw : K.lookup fSw = some ⟨ocSw, odSw, .func (PySem.W.fnOf "_law_shadow" "_law_shadow" (defArgs sShadow) (defBody sShadow) (defScope sShadow) .none kVSw dcSw pmSw anSw cdSw ctSw), slSw⟩)
    (cSw : PySem.W.codeIn K cdSw "_law_shadow" = true)
    (kSw : PySem.W.keepIn K (.ref fSw) = true)
    (aSt : PySem.W.nsIn K mainGlobals "_law_step" = some (some (.ref fSt)))
    (lSt : K.lookup fSt = some ⟨ocSt, odSt, .func (PySem.W.fnOf "_law_step" "_law_step" (defArgs sStepL) (defBody sStepL) (defScope sStepL) .none kVSt dcSt pmSt anSt cdSt ctSt), slSt⟩)
    (cSt : PySem.W.codeIn K cdSt "_law_step" = true)
    (kSt : PySem.W.keepIn K (.ref fSt) = true)
    (aBo : PySem.W.nsIn K mainGlobals "_law_bottoms" = some (some (.ref fBo)))
    (lBo : K.lookup fBo = some ⟨ocBo, odBo, .func (PySem.W.fnOf "_law_bottoms" "_law_bottoms" (defArgs sBottoms) (defBody sBottoms) (defScope sBottoms) .none kVBo dcBo pmBo anBo cdBo ctBo), slBo⟩)
    (cBo : PySem.W.codeIn K cdBo "_law_bottoms" = true)
    (kBo : PySem.W.keepIn K (.ref fBo) = true)
    (aPn : PySem.W.nsIn K mainGlobals "_law_plain" = some (some (.ref fPn)))
    (lPn : K.lookup fPn = some ⟨ocPn, odPn, .func (PySem.W.fnOf "_law_plain" "_law_plain" (defArgs sPlain) (defBody sPlain) (defScope sPlain) .none kVPn dcPn pmPn anPn cdPn ctPn), slPn⟩)
    (cPn : PySem.W.codeIn K cdPn "_law_plain" = true)
    (kPn : PySem.W.keepIn K (.ref fPn) = true)
    (aRe : PySem.W.nsIn K mainGlobals "_law_reached" = some (some (.ref fRe)))
    (lRe : K.lookup fRe = some ⟨ocRe, odRe, .func (PySem.W.fnOf "_law_reached" "_law_reached" (defArgs sReached) (defBody sReached) (defScope sReached) .none kVRe dcRe pmRe anRe cdRe ctRe), slRe⟩)
    (cRe : PySem.W.codeIn K cdRe "_law_reached" = true)
    (kRe : PySem.W.keepIn K (.ref fRe) = true)
    (aOv : PySem.W.nsIn K mainGlobals "_law_over" = some (some (.ref fOv)))
    (lOv : K.lookup fOv = some ⟨ocOv, odOv, .func (PySem.W.fnOf "_law_over" "_law_over" (defArgs sOver) (defBody sOver) (defScope sOver) .none kVOv dcOv pmOv anOv cdOv ctOv), slOv⟩)
    (cOv : PySem.W.codeIn K cdOv "_law_over" = true)
    (kOv : PySem.W.keepIn K (.ref fOv) = true)
    (aPt : PySem.W.nsIn K mainGlobals "_law_parts" = some (some (.ref fPt)))
    (lPt : K.lookup fPt = some ⟨ocPt, odPt, .func (PySem.W.fnOf "_law_parts" "_law_parts" (defArgs sParts) (defBody sParts) (defScope sParts) .none kVPt dcPt pmPt anPt cdPt ctPt), slPt⟩)
    (cPt : PySem.W.codeIn K cdPt "_law_parts" = true)
    (kPt : PySem.W.keepIn K (.ref fPt) = true)
    (aCo : PySem.W.nsIn K mainGlobals "_law_copied" = some (some (.ref fCo)))
    (lCo : K.lookup fCo = some ⟨ocCo, odCo, .func (PySem.W.fnOf "_law_copied" "_law_copied" (defArgs sCopied) (defBody sCopied) (defScope sCopied) .none kVCo dcCo pmCo anCo cdCo ctCo), slCo⟩)
    (cCo : PySem.W.codeIn K cdCo "_law_copied" = true)
    (kCo : PySem.W.keepIn K (.ref fCo) = true)
    (aSo : PySem.W.nsIn K mainGlobals "_law_spoilt" = some (some (.ref fSo)))
    (lSo : K.lookup fSo = some ⟨ocSo, odSo, .func (PySem.W.fnOf "_law_spoilt" "_law_spoilt" (defArgs sSpoilt) (defBody sSpoilt) (defScope sSpoilt) .none kVSo dcSo pmSo anSo cdSo ctSo), slSo⟩)
    (cSo : PySem.W.codeIn K cdSo "_law_spoilt" = true)
    (kSo : PySem.W.keepIn K (.ref fSo) = true)
    (aUn : PySem.W.nsIn K mainGlobals "_law_unit" = some (some (.ref fUn)))
    (lUn : K.lookup fUn = some ⟨ocUn, odUn, .func (PySem.W.fnOf "_law_unit" "_law_unit" (defArgs sUnitL) (defBody sUnitL) (defScope sUnitL) .none kVUn dcUn pmUn anUn cdUn ctUn), slUn⟩)
    (cUn : PySem.W.codeIn K cdUn "_law_unit" = true)
    (kUn : PySem.W.keepIn K (.ref fUn) = true)
    (aPp : PySem.W.nsIn K mainGlobals "_law_papers" = some (some (.ref fPp)))
    (lPp : K.lookup fPp = some ⟨ocPp, odPp, .func (PySem.W.fnOf "_law_papers" "_law_papers" (defArgs sPapers) (defBody sPapers) (defScope sPapers) .none kVPp dcPp pmPp anPp cdPp ctPp), slPp⟩)
    (cPp : PySem.W.codeIn K cdPp "_law_papers" = true)
    (kPp : PySem.W.keepIn K (.ref fPp) = true)
    (aL : PySem.W.nsIn K mainGlobals "law" = some (some (.ref fL)))
    (lL : K.lookup fL = some ⟨ocL, odL, .func (PySem.W.fnOf "law" "law" (defArgs sLaw) (defBody sLaw) (defScope sLaw) .none kVL dcL pmL anL cdL ctL), slL⟩)
    (cL : PySem.W.codeIn K cdL "law" = true)
    (kL : PySem.W.keepIn K (.ref fL) = true)
    (z_abs : PySem.W.nsIn K mainGlobals "abs" = some none)
    (z_len : PySem.W.nsIn K mainGlobals "len" = some none)
    (z_int : PySem.W.nsIn K mainGlobals "int" = some none)
    (z_max : PySem.W.nsIn K mainGlobals "max" = some none)
    (z_range : PySem.W.nsIn K mainGlobals "range" = some none)
    (z_isinstance : PySem.W.nsIn K mainGlobals "isinstance" = some none)
    (z_bool : PySem.W.nsIn K mainGlobals "bool" = some none)
    (z_zip : PySem.W.nsIn K mainGlobals "zip" = some none)
    (z_tuple : PySem.W.nsIn K mainGlobals "tuple" = some none)
    (z_list : PySem.W.nsIn K mainGlobals "list" = some none)
    (z_all : PySem.W.nsIn K mainGlobals "all" = some none)
    (z_any : PySem.W.nsIn K mainGlobals "any" = some none)
    : ∃ fd : FuncData, (∀ (s : Shared) (v : Value), BindsTo s fd ⟨[v], []⟩ [("script", v)]) ∧ ∀ base : Heap, K.In base → base.Ns mainGlobals mg → base.NoSeer → FnOk l.prog w K mg base CX0 40 fa fd ["script"] (spLaw K) := by
  have e := hfa.symm.trans (PySem.W.mg_of X G aL)
  cases e
  have T : TxtL mg := ⟨PySem.W.mg_none_of X G z_abs, PySem.W.mg_none_of X G z_len, PySem.W.mg_none_of X G z_int, PySem.W.mg_none_of X G z_max, PySem.W.mg_none_of X G z_range, PySem.W.mg_none_of X G z_isinstance, PySem.W.mg_none_of X G z_bool⟩
  have xeC : PySem.W.kitOne K (.ref C) (.ref C) = some true := by
    unfold PySem.W.kitOne
    rw [if_pos (beq_self_eq_true _)]
  have icC : C8.InsC K C := ⟨⟨pgC, hdC, poC, saC⟩, xaC, xn, xt, xmC, xeC⟩
  obtain ⟨fdI, FI⟩ : ∃ fd, FunD K "__init__" "Ratio.__init__" (defArgs sInit) (defBody sInit) (defScope sInit) [.int 1] [] fI fd := ⟨_, ⟨ocI, odI, .ref TT, kVI, dcI, pmI, anI, cdI, ctI, slI, rfl, lI, cI, .inr ⟨(fun z => nomatch z), TT, _, [.int 1 tkT], nT0, rfl, lT, rfl, .cons ⟨tkT, rfl⟩ .nil⟩, .inl rfl⟩, kI⟩
  have bI : Binds K fdI ["self", "top", "bottom"] [] := by
    obtain ⟨ds, v, b⟩ := FI.binds1 (ps := ["self", "top", "bottom"]) 3 1 (fun z => nomatch z) rfl fun T kV doc pm an cdv ct us its hu hi => match us, its, hu, hi with | [_, _, _], [_], _, _ => ⟨_, rfl, rfl⟩
    cases v
    exact b
  have bI1 : ∃ ds, Vals [V.int 1] ds ∧ Binds K fdI ["self", "top", "bottom"] ds := FI.binds1 (ps := ["self", "top", "bottom"]) 2 0 (fun z => nomatch z) rfl fun T kV doc pm an cdv ct us its hu hi => match us, its, hu, hi with | [_, _], [_], _, _ => ⟨_, rfl, rfl⟩
  have FE := fun_mk (st := sEq) lE cE kE
  have bE := FE.binds (ps := ["self", "other"]) fun _ _ _ _ _ _ us hl => match us, hl with | [_, _], _ => rfl
  have FMi := fun_mk (st := sMi) lMi cMi kMi
  have bMi := FMi.binds (ps := ["self", "letters", "start", "steps", "end"]) fun _ _ _ _ _ _ us hl => match us, hl with | [_, _, _, _, _], _ => rfl
  have FSi := fun_mk (st := sSi) lSi cSi kSi
  have bSi := FSi.binds (ps := ["self"]) fun _ _ _ _ _ _ us hl => match us, hl with | [_], _ => rfl
  have FFi := fun_mk (st := sFit) lFi cFi kFi
  have bFi := FFi.binds (ps := ["self"]) fun _ _ _ _ _ _ us hl => match us, hl with | [_], _ => rfl
  have FTp := fun_mk (st := sTape) lTp cTp kTp
  have bTp := FTp.binds (ps := ["script"]) fun _ _ _ _ _ _ us hl => match us, hl with | [_], _ => rfl
  have mTp := PySem.W.mg_of X G aTp
  have FNx := fun_mk (st := sNext) lNx cNx kNx
  have bNx := FNx.binds (ps := ["tape", "limit"]) fun _ _ _ _ _ _ us hl => match us, hl with | [_, _], _ => rfl
  have mNx := PySem.W.mg_of X G aNx
  have FGr := fun_mk (st := sGreat) lGr cGr kGr
  have bGr := FGr.binds (ps := ["tape"]) fun _ _ _ _ _ _ us hl => match us, hl with | [_], _ => rfl
  have mGr := PySem.W.mg_of X G aGr
  have FEn := fun_mk (st := sEntry) lEn cEn kEn
  have bEn := FEn.binds (ps := ["tape"]) fun _ _ _ _ _ _ us hl => match us, hl with | [_], _ => rfl
  have mEn := PySem.W.mg_of X G aEn
  have FSh := fun_mk (st := sShared) lSh cSh kSh
  have bSh := FSh.binds (ps := ["one", "other"]) fun _ _ _ _ _ _ us hl => match us, hl with | [_, _], _ => rfl
  have mSh := PySem.W.mg_of X G aSh
  have FLo := fun_mk (st := sLowest) lLo cLo kLo
  have bLo := FLo.binds (ps := ["top", "bottom"]) fun _ _ _ _ _ _ us hl => match us, hl with | [_, _], _ => rfl
  have mLo := PySem.W.mg_of X G aLo
  have FPl := fun_mk (st := sPlus) lPl cPl kPl
  have bPl := FPl.binds (ps := ["one", "two"]) fun _ _ _ _ _ _ us hl => match us, hl with | [_, _], _ => rfl
  have mPl := PySem.W.mg_of X G aPl
  have FBy := fun_mk (st := sBy) lBy cBy kBy
  have bBy := FBy.binds (ps := ["one", "two"]) fun _ _ _ _ _ _ us hl => match us, hl with | [_, _], _ => rfl
  have mBy := PySem.W.mg_of X G aBy
  have FSb := fun_mk (st := sSumBy) lSb cSb kSb
  have bSb := FSb.binds (ps := ["row", "other"]) fun _ _ _ _ _ _ us hl => match us, hl with | [_, _], _ => rfl
  have mSb := PySem.W.mg_of X G aSb
  have FSp := fun_mk (st := sSop) lSp cSp kSp
  have bSp := FSp.binds (ps := ["row", "column"]) fun _ _ _ _ _ _ us hl => match us, hl with | [_, _], _ => rfl
  have mSp := PySem.W.mg_of X G aSp
  have FRl := fun_mk (st := sRowLed) lRl cRl kRl
  have bRl := FRl.binds (ps := ["row", "table", "width"]) fun _ _ _ _ _ _ us hl => match us, hl with | [_, _, _], _ => rfl
  have mRl := PySem.W.mg_of X G aRl
  have FIw := fun_mk (st := sSameWay) lIw cIw kIw
  have bIw := FIw.binds (ps := ["step", "its", "table", "width"]) fun _ _ _ _ _ _ us hl => match us, hl with | [_, _, _, _], _ => rfl
  have mIw := PySem.W.mg_of X G aIw
  have FIc := fun_mk (st := sIsCarry) lIc cIc kIc
  have bIc := FIc.binds (ps := ["one", "other", "table"]) fun _ _ _ _ _ _ us hl => match us, hl with | [_, _, _], _ => rfl
  have mIc := PySem.W.mg_of X G aIc
  have FRb := fun_mk (st := sRowBy) lRb cRb kRb
  have bRb := FRb.binds (ps := ["row", "table", "width"]) fun _ _ _ _ _ _ us hl => match us, hl with | [_, _, _], _ => rfl
  have mRb := PySem.W.mg_of X G aRb
  have FRs := fun_mk (st := sRats) lRs cRs kRs
  have bRs := FRs.binds (ps := ["row"]) fun _ _ _ _ _ _ us hl => match us, hl with | [_], _ => rfl
  have mRs := PySem.W.mg_of X G aRs
  have FMa := fun_mk (st := sMakeM) lMa cMa kMa
  have bMa := FMa.binds (ps := ["parts"]) fun _ _ _ _ _ _ us hl => match us, hl with | [_], _ => rfl
  have mMa := PySem.W.mg_of X G aMa
  have FTb := fun_mk (st := sTabs) lTb cTb kTb
  have bTb := FTb.binds (ps := ["table"]) fun _ _ _ _ _ _ us hl => match us, hl with | [_], _ => rfl
  have mTb := PySem.W.mg_of X G aTb
  have FJu := fun_mk (st := sJudge) lJu cJu kJu
  have bJu := FJu.binds (ps := ["first", "second", "table"]) fun _ _ _ _ _ _ us hl => match us, hl with | [_, _, _], _ => rfl
  have mJu := PySem.W.mg_of X G aJu
  have FHo := fun_mk (st := sHolds) lHo cHo kHo
  have bHo := FHo.binds (ps := ["first", "second", "table"]) fun _ _ _ _ _ _ us hl => match us, hl with | [_, _, _], _ => rfl
  have mHo := PySem.W.mg_of X G aHo
  have FRi := fun_mk (st := sRight) lRi cRi kRi
  have bRi := FRi.binds (ps := ["rows", "deed"]) fun _ _ _ _ _ _ us hl => match us, hl with | [_, _], _ => rfl
  have mRi := PySem.W.mg_of X G aRi
  have FLe := fun_mk (st := sLeft) lLe cLe kLe
  have bLe := FLe.binds (ps := ["rows", "deed"]) fun _ _ _ _ _ _ us hl => match us, hl with | [_, _], _ => rfl
  have mLe := PySem.W.mg_of X G aLe
  have FCh := fun_mk (st := sChange) lCh cCh kCh
  have bCh := FCh.binds (ps := ["parts", "deed"]) fun _ _ _ _ _ _ us hl => match us, hl with | [_, _], _ => rfl
  have mCh := PySem.W.mg_of X G aCh
  have FPr := fun_mk (st := sPairL) lPr cPr kPr
  have bPr := FPr.binds (ps := ["tape"]) fun _ _ _ _ _ _ us hl => match us, hl with | [_], _ => rfl
  have mPr := PySem.W.mg_of X G aPr
  have FDe := fun_mk (st := sDeed) lDe cDe kDe
  have bDe := FDe.binds (ps := ["tape", "size"]) fun _ _ _ _ _ _ us hl => match us, hl with | [_, _], _ => rfl
  have mDe := PySem.W.mg_of X G aDe
  have FUs := fun_mk (st := sUnseen) lUs cUs kUs
  have bUs := FUs.binds (ps := ["parts", "tape"]) fun _ _ _ _ _ _ us hl => match us, hl with | [_, _], _ => rfl
  have mUs := PySem.W.mg_of X G aUs
  have FUr := fun_mk (st := sUnreached) lUr cUr kUr
  have bUr := FUr.binds (ps := ["parts", "tape"]) fun _ _ _ _ _ _ us hl => match us, hl with | [_, _], _ => rfl
  have mUr := PySem.W.mg_of X G aUr
  have FSw := fun_mk (st := sShadow) lSw cSw kSw
  have bSw := FSw.binds (ps := ["parts", "table", "width", "tape"]) fun _ _ _ _ _ _ us hl => match us, hl with | [_, _, _, _], _ => rfl
  have mSw := PySem.W.mg_of X G aSw
  have FSt := fun_mk (st := sStepL) lSt cSt kSt
  have bSt := FSt.binds (ps := ["tape", "size", "shape", "letter"]) fun _ _ _ _ _ _ us hl => match us, hl with | [_, _, _, _], _ => rfl
  have mSt := PySem.W.mg_of X G aSt
  have FBo := fun_mk (st := sBottoms) lBo cBo kBo
  have bBo := FBo.binds (ps := ["tape", "letters", "size"]) fun _ _ _ _ _ _ us hl => match us, hl with | [_, _, _], _ => rfl
  have mBo := PySem.W.mg_of X G aBo
  have FPn := fun_mk (st := sPlain) lPn cPn kPn
  have bPn := FPn.binds (ps := ["tape", "wide", "limits"]) fun _ _ _ _ _ _ us hl => match us, hl with | [_, _, _], _ => rfl
  have mPn := PySem.W.mg_of X G aPn
  have FRe := fun_mk (st := sReached) lRe cRe kRe
  have bRe := FRe.binds (ps := ["plain"]) fun _ _ _ _ _ _ us hl => match us, hl with | [_], _ => rfl
  have mRe := PySem.W.mg_of X G aRe
  have FOv := fun_mk (st := sOver) lOv cOv kOv
  have bOv := FOv.binds (ps := ["row", "bottom"]) fun _ _ _ _ _ _ us hl => match us, hl with | [_, _], _ => rfl
  have mOv := PySem.W.mg_of X G aOv
  have FPt := fun_mk (st := sParts) lPt cPt kPt
  have bPt := FPt.binds (ps := ["plain"]) fun _ _ _ _ _ _ us hl => match us, hl with | [_], _ => rfl
  have mPt := PySem.W.mg_of X G aPt
  have FCo := fun_mk (st := sCopied) lCo cCo kCo
  have bCo := FCo.binds (ps := ["parts"]) fun _ _ _ _ _ _ us hl => match us, hl with | [_], _ => rfl
  have mCo := PySem.W.mg_of X G aCo
  have FSo := fun_mk (st := sSpoilt) lSo cSo kSo
  have bSo := FSo.binds (ps := ["tape", "plain"]) fun _ _ _ _ _ _ us hl => match us, hl with | [_, _], _ => rfl
  have mSo := PySem.W.mg_of X G aSo
  have FUn := fun_mk (st := sUnitL) lUn cUn kUn
  have bUn := FUn.binds (ps := ["size"]) fun _ _ _ _ _ _ us hl => match us, hl with | [_], _ => rfl
  have mUn := PySem.W.mg_of X G aUn
  have FPp := fun_mk (st := sPapers) lPp cPp kPp
  have bPp := FPp.binds (ps := ["tape", "table", "width"]) fun _ _ _ _ _ _ us hl => match us, hl with | [_, _, _], _ => rfl
  have mPp := PySem.W.mg_of X G aPp
  refine ⟨PySem.W.fnOf "law" "law" (defArgs sLaw) (defBody sLaw) (defScope sLaw) .none kVL dcL pmL anL cdL ctL, fun s v => .of_eq rfl, fun base _ _ seer => ?_⟩
  have BG : PL.Big l.prog base := ⟨seer, ht⟩
  have TR : TxtR K mg C := ⟨⟨pgC, hdC, poC, saC⟩, nCtop, nCbottom, PySem.W.mg_of X G aC, PySem.W.mg_of X G xGcd⟩
  have TM : TxtM K mg CM := ⟨⟨pgCM, hdCM, poCM, saCM⟩, nCMletters, nCMstart, nCMsteps, nCMend, nCM_above, PySem.W.mg_of X G aCM⟩
  have TP : TxtP mg := ⟨PySem.W.mg_none_of X G z_zip, PySem.W.mg_of X G xLcm, PySem.W.mg_none_of X G z_tuple, PySem.W.mg_none_of X G z_list, PySem.W.mg_none_of X G z_range⟩
  have mall := PySem.W.mg_none_of X G z_all
  have many := PySem.W.mg_none_of X G z_any
  have M : Mk K C fI := ⟨mkC, aI, iI, kcC⟩
  have MM : Mk K CM fMi := ⟨mkCM, aMi, iMi, kcCM⟩
  have GI := ok_initB (P := l.prog) (w := w) (base := base) BG FI TR
  have GE := ok_eqR (P := l.prog) (w := w) (mg := mg) (base := base) FE TR icC T.isi
  have cSi : PropN l.prog w K mg base CM "size" 1 (spSi C CM) qSi fSi _ := ⟨ok_si FSi T TM, ⟨aSi, g1Si, g2Si, ⟨_, g3Si⟩⟩, bSi⟩
  have cFi : MetN l.prog w K mg base CM "_fits" 1 ["self"] (spFit C CM) fFi _ := ⟨ok_fit FFi T TM mall, ⟨aFi, iFi, kFi⟩, bFi⟩
  have GM := ok_mi (P := l.prog) (w := w) (base := base) FMi TP TM cFi
  have cTp : CalN l.prog w K mg base "_law_tape" 1 ["script"] (spFeed K) fTp _ := ⟨ok_feed FTp T, mTp, kTp, bTp⟩
  have cNx : CalN l.prog w K mg base "_law_next" 1 ["tape", "limit"] spDraw fNx _ := ⟨ok_draw FNx T, mNx, kNx, bNx⟩
  have cGr : CalN l.prog w K mg base "_law_great" 2 ["tape"] spGrt fGr _ := ⟨ok_grt FGr T cNx, mGr, kGr, bGr⟩
  have cEn : CalN l.prog w K mg base "_law_entry" 2 ["tape"] spEn fEn _ := ⟨ok_en FEn cNx, mEn, kEn, bEn⟩
  have cSh : CalN l.prog w K mg base "_law_shared" 1 ["one", "other"] spShr fSh _ := ⟨ok_shr FSh T, mSh, kSh, bSh⟩
  have cLo : CalN l.prog w K mg base "_law_lowest" 33 ["top", "bottom"] spPairB fLo _ := ⟨ok_low BG FLo cSh, mLo, kLo, bLo⟩
  have cPl : CalN l.prog w K mg base "_law_plus" 34 ["one", "two"] (spPlu C) fPl _ := ⟨ok_plu FPl cLo, mPl, kPl, bPl⟩
  have cBy : CalN l.prog w K mg base "_law_by" 34 ["one", "two"] (spBy C) fBy _ := ⟨ok_by FBy cLo, mBy, kBy, bBy⟩
  have cSb : CalN l.prog w K mg base "_law_sum_by" 35 ["row", "other"] (spSb C) fSb _ := ⟨ok_sb FSb T cPl cBy, mSb, kSb, bSb⟩
  have cSp : CalN l.prog w K mg base "sum_of_products" 35 ["row", "column"] (spSp C) fSp _ := ⟨ok_sp BG FSp TP TR M GI bI, mSp, kSp, bSp⟩
  have cRl : CalN l.prog w K mg base "_row_led" 36 ["row", "table", "width"] (spRl C) fRl _ := ⟨ok_rl FRl TP T cSp, mRl, kRl, bRl⟩
  have cIw : CalN l.prog w K mg base "_is_same_way" 37 ["step", "its", "table", "width"] (spIw C) fIw _ := ⟨ok_iw FIw TP T mall cRl GE aE iE bE, mIw, kIw, bIw⟩
  have cIc : CalN l.prog w K mg base "is_carry" 38 ["one", "other", "table"] (spIc C CM) fIc _ := ⟨ok_ic FIc TP T TM mall many cSp cRl cIw cSi GE aE iE bE, mIc, kIc, bIc⟩
  have cRs : CalN l.prog w K mg base "_law_ratios" 35 ["row"] (spRs C) fRs _ := ⟨ok_rs FRs TR M GI bI, mRs, kRs, bRs⟩
  have cTb : CalN l.prog w K mg base "_law_tables" 36 ["table"] (spTbs C) fTb _ := ⟨ok_tbs FTb TP cRs, mTb, kTb, bTb⟩
  have cMa : CalN l.prog w K mg base "_law_machine" 36 ["parts"] (spMaM C CM) fMa _ := ⟨ok_mam FMa TM MM GM bMi cRs, mMa, kMa, bMa⟩
  have cRb : CalN l.prog w K mg base "_law_row_by" 36 ["row", "table", "width"] (spRbL C) fRb _ := ⟨ok_rbl FRb T cSb, mRb, kRb, bRb⟩
  have cJu : CalN l.prog w K mg base "_law_judge" 37 ["first", "second", "table"] (spJu C) fJu _ := ⟨ok_ju FJu T mall cSb cRb, mJu, kJu, bJu⟩
  have cHo : CalN l.prog w K mg base "_law_holds" 39 ["first", "second", "table"] (spHo C) fHo _ := ⟨ok_ho FHo T cMa cTb cIc cJu, mHo, kHo, bHo⟩
  have cRi : CalN l.prog w K mg base "_law_right" 35 ["rows", "deed"] (spRi C) fRi _ := ⟨ok_ri FRi T cPl cBy, mRi, kRi, bRi⟩
  have cLe : CalN l.prog w K mg base "_law_left" 35 ["rows", "deed"] (spLe C) fLe _ := ⟨ok_le FLe T cPl cBy cLo, mLe, kLe, bLe⟩
  have cCh : CalN l.prog w K mg base "_law_change" 36 ["parts", "deed"] spCh fCh _ := ⟨ok_ch FCh T cRi cLe, mCh, kCh, bCh⟩
  have cPr : CalN l.prog w K mg base "_law_pair" 34 ["tape"] spPr fPr _ := ⟨ok_pr FPr cLo cEn cNx, mPr, kPr, bPr⟩
  have cDe : CalN l.prog w K mg base "_law_deed" 34 ["tape", "size"] spDe fDe _ := ⟨ok_de FDe T cLo cNx, mDe, kDe, bDe⟩
  have cUs : CalN l.prog w K mg base "_law_unseen" 35 ["parts", "tape"] spUs fUs _ := ⟨ok_us FUs T cPr, mUs, kUs, bUs⟩
  have cUr : CalN l.prog w K mg base "_law_unreached" 35 ["parts", "tape"] spUs fUr _ := ⟨ok_ur FUr T cPr, mUr, kUr, bUr⟩
  have cSw : CalN l.prog w K mg base "_law_shadow" 37 ["parts", "table", "width", "tape"] spShw fSw _ := ⟨ok_shw FSw T cPr cRb cSb cPl cBy, mSw, kSw, bSw⟩
  have cSt : CalN l.prog w K mg base "_law_step" 3 ["tape", "size", "shape", "letter"] spStp fSt _ := ⟨ok_stp FSt T cEn, mSt, kSt, bSt⟩
  have cBo : CalN l.prog w K mg base "_law_bottoms" 3 ["tape", "letters", "size"] spBo fBo _ := ⟨ok_bo FBo T cNx cGr, mBo, kBo, bBo⟩
  have cPn : CalN l.prog w K mg base "_law_plain" 4 ["tape", "wide", "limits"] spPn fPn _ := ⟨ok_pn FPn T cNx cGr cEn cSt cBo, mPn, kPn, bPn⟩
  have cRe : CalN l.prog w K mg base "_law_reached" 1 ["plain"] spRe fRe _ := ⟨ok_re FRe T TP, mRe, kRe, bRe⟩
  have cOv : CalN l.prog w K mg base "_law_over" 34 ["row", "bottom"] spOv fOv _ := ⟨ok_ov FOv cLo, mOv, kOv, bOv⟩
  have cPt : CalN l.prog w K mg base "_law_parts" 35 ["plain"] spPt fPt _ := ⟨ok_pt FPt T cOv, mPt, kPt, bPt⟩
  have cCo : CalN l.prog w K mg base "_law_copied" 1 ["parts"] spCo fCo _ := ⟨ok_co FCo T TP, mCo, kCo, bCo⟩
  have cSo : CalN l.prog w K mg base "_law_spoilt" 2 ["tape", "plain"] spSpo fSo _ := ⟨ok_spo FSo T TP cNx, mSo, kSo, bSo⟩
  have cUn : CalN l.prog w K mg base "_law_unit" 1 ["size"] spUn fUn _ := ⟨ok_un FUn T, mUn, kUn, bUn⟩
  have cPp : CalN l.prog w K mg base "_law_papers" 35 ["tape", "table", "width"] spPp fPp _ := ⟨ok_pp FPp T TP cUn cBy cPl cNx, mPp, kPp, bPp⟩
  exact ok_law (fun_mk (st := sLaw) lL cL kL) T TP cTp cPn cNx cRe cPt cCo cUn cUr cUs cSw cDe cCh cRi cLe cPp cSo cHo
theorem walk {l : PySem.W.OpenLaw} {q : Program} {loose : List Str} {XP : (Str → Option Value) → Heap → Prop} {YP : World → Heap → Prop} {d : DefRec} {K : Params → PySem.W.Frag} (hi : PyProof.Rows.importsNone q = true) (hn : l.most = some 63) (hdf : d.params.defaults = [])
    (hY : ∀ (w : World) (h : Heap), YP w h → (K w.params).In h)
    (F : ∀ (w : World) (mg : Str → Option Value) (fa : Addr) (h : Heap), (K w.params).In h → h.Ns mainGlobals mg → mg d.name = some (.ref fa) →
      ∃ fd : FuncData, (∀ (s : Shared) (u : Value), BindsTo s fd ⟨[u], []⟩ [("script", u)]) ∧ ∀ base : Heap, (K w.params).In base → base.Ns mainGlobals mg → base.NoSeer → FnOk l.prog w (K w.params) mg base CX0 40 fa fd ["script"] (spLaw (K w.params))) :
    PySem.W.WalkO q loose XP YP l.row.toRowW d [] (fun f vs => PySem.call f vs) :=
  PL.big_walk (n := 63) (k := 40) (x := "script") (CX := fun _ => CX0) (sp := fun w => spLaw (K w.params)) hi hn (by decide) hdf ⟨rfl, by decide, by decide⟩ hY F (fun _ _ a ns hl _ hS => ⟨a, ns, rfl, hS, hl, fun _ => rfl⟩) fun _ _ _ _ _ z => z
end RX

set_option Elab.async false

open PySem PySem.W PyProof.Rows in
set_option maxRecDepth 100000 in
set_option maxHeartbeats 0 in
theorem PySem.Challenge.cw_wordworth_k38_carries_judged_holds : PySem.Challenge.rw_wordworth_k38_carries_judged.Holds := by
  w_on; o_law; k_head; (case hw => w_witness2)
  k_fill
  refine RX.walk (l := PySem.Challenge.rw_wordworth_k38_carries_judged) rfl rfl rfl (fun w h Y => PySem.W.kIn_of Y) ?F
  case F =>
    intro w mg fa h KX G hmg
    refine' RX.all_mk KX G hmg rfl ?xGcd ?xLcm ?aC ?pgC ?hdC ?poC ?saC ?nCtop ?nCbottom ?mkC ?kcC ?xaC ?xmC ?aI ?iI ?lI ?cI ?kI ?lT ?aE ?iE ?lE ?cE ?kE ?aCM ?pgCM ?hdCM ?poCM ?saCM ?nCMletters ?nCMstart ?nCMsteps ?nCMend ?nCM_above ?mkCM ?kcCM ?aMi ?iMi ?lMi ?cMi ?kMi ?aSi ?g1Si ?g2Si ?g3Si ?lSi ?cSi ?kSi ?aFi ?iFi ?lFi ?cFi ?kFi ?xn ?xt ?aTp ?lTp ?cTp ?kTp ?aNx ?lNx ?cNx ?kNx ?aGr ?lGr ?cGr ?kGr ?aEn ?lEn ?cEn ?kEn ?aSh ?lSh ?cSh ?kSh ?aLo ?lLo ?cLo ?kLo ?aPl ?lPl ?cPl ?kPl ?aBy ?lBy ?cBy ?kBy ?aSb ?lSb ?cSb ?kSb ?aSp ?lSp ?cSp ?kSp ?aRl ?lRl ?cRl ?kRl ?aIw ?lIw ?cIw ?kIw ?aIc ?lIc ?cIc ?kIc ?aRb ?lRb ?cRb ?kRb ?aRs ?lRs ?cRs ?kRs ?aMa ?lMa ?cMa ?kMa ?aTb ?lTb ?cTb ?kTb ?aJu ?lJu ?cJu ?kJu ?aHo ?lHo ?cHo ?kHo ?aRi ?lRi ?cRi ?kRi ?aLe ?lLe ?cLe ?kLe ?aCh ?lCh ?cCh ?kCh ?aPr ?lPr ?cPr ?kPr ?aDe ?lDe ?cDe ?kDe ?aUs ?lUs ?cUs ?kUs ?aUr ?lUr ?cUr ?kUr ?aSw ?lSw ?cSw ?kSw ?aSt ?lSt ?cSt ?kSt ?aBo ?lBo ?cBo ?kBo ?aPn ?lPn ?cPn ?kPn ?aRe ?lRe ?cRe ?kRe ?aOv ?lOv ?cOv ?kOv ?aPt ?lPt ?cPt ?kPt ?aCo ?lCo ?cCo ?kCo ?aSo ?lSo ?cSo ?kSo ?aUn ?lUn ?cUn ?kUn ?aPp ?lPp ?cPp ?kPp ?aL ?lL ?cL ?kL ?z_abs ?z_len ?z_int ?z_max ?z_range ?z_isinstance ?z_bool ?z_zip ?z_tuple ?z_list ?z_all ?z_any
    (case xGcd => k_is)
    (case xLcm => k_is)
    (case aC => k_is)
    (case pgC => k_is)
    (case hdC => k_is)
    (case poC => k_is)
    (case saC => k_is)
    (case nCtop => k_is)
    (case nCbottom => k_is)
    (case mkC => k_is)
    (case kcC => k_is)
    (case xaC => k_is)
    (case xmC => k_is)
    (case aI => k_is)
    (case iI => k_is)
    (case lI => k_is)
    (case cI => k_is)
    (case kI => k_is)
    (case lT => k_is)
    (case aE => k_is)
    (case iE => k_is)
    (case lE => k_is)
    (case cE => k_is)
    (case kE => k_is)
    (case aCM => k_is)
    (case pgCM => k_is)
    (case hdCM => k_is)
    (case poCM => k_is)
    (case saCM => k_is)
    (case nCMletters => k_is)
    (case nCMstart => k_is)
    (case nCMsteps => k_is)
    (case nCMend => k_is)
    (case nCM_above => k_is)
    (case mkCM => k_is)
    (case kcCM => k_is)
    (case aMi => k_is)
    (case iMi => k_is)
    (case lMi => k_is)
    (case cMi => k_is)
    (case kMi => k_is)
    (case aSi => k_is)
    (case g1Si => k_is)
    (case g2Si => k_is)
    (case g3Si => k_is)
    (case lSi => k_is)
    (case cSi => k_is)
    (case kSi => k_is)
    (case aFi => k_is)
    (case iFi => k_is)
    (case lFi => k_is)
    (case cFi => k_is)
    (case kFi => k_is)
    (case xn => k_is)
    (case xt => k_is)
    (case aTp => k_is)
    (case lTp => k_is)
    (case cTp => k_is)
    (case kTp => k_is)
    (case aNx => k_is)
    (case lNx => k_is)
    (case cNx => k_is)
    (case kNx => k_is)
    (case aGr => k_is)
    (case lGr => k_is)
    (case cGr => k_is)
    (case kGr => k_is)
    (case aEn => k_is)
    (case lEn => k_is)
    (case cEn => k_is)
    (case kEn => k_is)
    (case aSh => k_is)
    (case lSh => k_is)
    (case cSh => k_is)
    (case kSh => k_is)
    (case aLo => k_is)
    (case lLo => k_is)
    (case cLo => k_is)
    (case kLo => k_is)
    (case aPl => k_is)
    (case lPl => k_is)
    (case cPl => k_is)
    (case kPl => k_is)
    (case aBy => k_is)
    (case lBy => k_is)
    (case cBy => k_is)
    (case kBy => k_is)
    (case aSb => k_is)
    (case lSb => k_is)
    (case cSb => k_is)
    (case kSb => k_is)
    (case aSp => k_is)
    (case lSp => k_is)
    (case cSp => k_is)
    (case kSp => k_is)
    (case aRl => k_is)
    (case lRl => k_is)
    (case cRl => k_is)
    (case kRl => k_is)
    (case aIw => k_is)
    (case lIw => k_is)
    (case cIw => k_is)
    (case kIw => k_is)
    (case aIc => k_is)
    (case lIc => k_is)
    (case cIc => k_is)
    (case kIc => k_is)
    (case aRb => k_is)
    (case lRb => k_is)
    (case cRb => k_is)
    (case kRb => k_is)
    (case aRs => k_is)
    (case lRs => k_is)
    (case cRs => k_is)
    (case kRs => k_is)
    (case aMa => k_is)
    (case lMa => k_is)
    (case cMa => k_is)
    (case kMa => k_is)
    (case aTb => k_is)
    (case lTb => k_is)
    (case cTb => k_is)
    (case kTb => k_is)
    (case aJu => k_is)
    (case lJu => k_is)
    (case cJu => k_is)
    (case kJu => k_is)
    (case aHo => k_is)
    (case lHo => k_is)
    (case cHo => k_is)
    (case kHo => k_is)
    (case aRi => k_is)
    (case lRi => k_is)
    (case cRi => k_is)
    (case kRi => k_is)
    (case aLe => k_is)
    (case lLe => k_is)
    (case cLe => k_is)
    (case kLe => k_is)
    (case aCh => k_is)
    (case lCh => k_is)
    (case cCh => k_is)
    (case kCh => k_is)
    (case aPr => k_is)
    (case lPr => k_is)
    (case cPr => k_is)
    (case kPr => k_is)
    (case aDe => k_is)
    (case lDe => k_is)
    (case cDe => k_is)
    (case kDe => k_is)
    (case aUs => k_is)
    (case lUs => k_is)
    (case cUs => k_is)
    (case kUs => k_is)
    (case aUr => k_is)
    (case lUr => k_is)
    (case cUr => k_is)
    (case kUr => k_is)
    (case aSw => k_is)
    (case lSw => k_is)
    (case cSw => k_is)
    (case kSw => k_is)
    (case aSt => k_is)
    (case lSt => k_is)
    (case cSt => k_is)
    (case kSt => k_is)
    (case aBo => k_is)
    (case lBo => k_is)
    (case cBo => k_is)
    (case kBo => k_is)
    (case aPn => k_is)
    (case lPn => k_is)
    (case cPn => k_is)
    (case kPn => k_is)
    (case aRe => k_is)
    (case lRe => k_is)
    (case cRe => k_is)
    (case kRe => k_is)
    (case aOv => k_is)
    (case lOv => k_is)
    (case cOv => k_is)
    (case kOv => k_is)
    (case aPt => k_is)
    (case lPt => k_is)
    (case cPt => k_is)
    (case kPt => k_is)
    (case aCo => k_is)
    (case lCo => k_is)
    (case cCo => k_is)
    (case kCo => k_is)
    (case aSo => k_is)
    (case lSo => k_is)
    (case cSo => k_is)
    (case kSo => k_is)
    (case aUn => k_is)
    (case lUn => k_is)
    (case cUn => k_is)
    (case kUn => k_is)
    (case aPp => k_is)
    (case lPp => k_is)
    (case cPp => k_is)
    (case kPp => k_is)
    (case aL => k_is)
    (case lL => k_is)
    (case cL => k_is)
    (case kL => k_is)
    (case z_abs => k_is)
    (case z_len => k_is)
    (case z_int => k_is)
    (case z_max => k_is)
    (case z_range => k_is)
    (case z_isinstance => k_is)
    (case z_bool => k_is)
    (case z_zip => k_is)
    (case z_tuple => k_is)
    (case z_list => k_is)
    (case z_all => k_is)
    (case z_any => k_is)

