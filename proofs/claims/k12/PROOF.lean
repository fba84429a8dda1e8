import PyProof.Rows.All
import Wide.All
import OpenK.AllK
import Wide.FinOn
import HandS.Call
import HandS.List
import HandS.Wide
import KE.KOpsOwn
import HandS.ForMost
import HandS.Gcd
import HandS.MakeKw
import HandS.IsInst
import HandS.Codes
import HandS.Zip
import HandS.Ends
import KE.KMathG
import HandS.Walk
import HandS.StrMore
import HandS.Rev
import PyProof.StrOps
import HandS.Sort
import HandS.Star
import HandS.IterVal
import HandS.WideBits
import HandS.Property
import HandS.Steps
import HandS.ExcInitHot
import HandS.ExcField
import HandS.CallSlots
import HandS.Words
import HandS.WordsExc
import KE.KExcIs
import HandS.HotCalls
import HandS.Comp
import HandS.Defaults
import HandS.MakeKwOnly
import HandS.More
import HandS.FStr
import PySem.Challenge.RW_wordworth_k12_machine_shapes
/-! lowest terms, in plain Lean -/
namespace RT
def gg (t b : Int) : Int := ((Nat.gcd t.natAbs b.natAbs : Nat) : Int)
def byv (t b : Int) : Int := if b > 0 then gg t b else -(gg t b)
def top (t b : Int) : Int := t.fdiv (byv t b)
def bot (t b : Int) : Int := b.fdiv (byv t b)
theorem gg_pos {t b : Int} (h : b ≠ 0) : 0 < gg t b := by
  have : 0 < Nat.gcd t.natAbs b.natAbs := Nat.gcd_pos_of_pos_right _ (by omega)
  unfold gg; omega
theorem byv_ne {t b : Int} (h : b ≠ 0) : byv t b ≠ 0 := by
  have := gg_pos (t := t) h
  unfold byv; split <;> omega
theorem gg_dvd_l (t b : Int) : gg t b ∣ t := by
  unfold gg
  exact Int.ofNat_dvd_left.mpr (Nat.gcd_dvd_left _ _)
theorem gg_dvd_r (t b : Int) : gg t b ∣ b := by
  unfold gg
  exact Int.ofNat_dvd_left.mpr (Nat.gcd_dvd_right _ _)
theorem byv_dvd_l (t b : Int) : byv t b ∣ t := by
  unfold byv; split
  · exact gg_dvd_l t b
  · exact Int.neg_dvd.mpr (gg_dvd_l t b)
theorem byv_dvd_r (t b : Int) : byv t b ∣ b := by
  unfold byv; split
  · exact gg_dvd_r t b
  · exact Int.neg_dvd.mpr (gg_dvd_r t b)
theorem byv_natAbs (t b : Int) : (byv t b).natAbs = Nat.gcd t.natAbs b.natAbs := by
  unfold byv gg; split <;> simp
theorem fdiv_of_dvd {a b : Int} (hb : b ≠ 0) (h : b ∣ a) : a.fdiv b * b = a := by
  obtain ⟨k, rfl⟩ := h
  rw [Int.mul_fdiv_cancel_left _ hb, Int.mul_comm]
theorem top_mul {t b : Int} (h : b ≠ 0) : top t b * byv t b = t := fdiv_of_dvd (byv_ne h) (byv_dvd_l t b)
theorem bot_mul {t b : Int} (h : b ≠ 0) : bot t b * byv t b = b := fdiv_of_dvd (byv_ne h) (byv_dvd_r t b)
theorem bot_pos {t b : Int} (h : b ≠ 0) : 0 < bot t b := by
  have e := bot_mul (t := t) h
  have g := gg_pos (t := t) h
  unfold byv at e
  split at e
  · rename_i hb
    rcases Int.lt_trichotomy (bot t b) 0 with z | z | z
    · have := Int.mul_neg_of_neg_of_pos z g; omega
    · rw [z] at e; omega
    · exact z
  · rename_i hb
    rcases Int.lt_trichotomy (bot t b) 0 with z | z | z
    · have := Int.mul_neg_of_neg_of_pos z g
      have h2 : bot t b * -gg t b = -(bot t b * gg t b) := Int.mul_neg _ _
      omega
    · rw [z] at e; omega
    · exact z
theorem cop {t b : Int} (h : b ≠ 0) : Nat.Coprime (top t b).natAbs (bot t b).natAbs := by
  have e1 : (top t b).natAbs * Nat.gcd t.natAbs b.natAbs = t.natAbs := by
    rw [← byv_natAbs, ← Int.natAbs_mul, top_mul h]
  have e2 : (bot t b).natAbs * Nat.gcd t.natAbs b.natAbs = b.natAbs := by
    rw [← byv_natAbs, ← Int.natAbs_mul, bot_mul h]
  have hp : 0 < Nat.gcd t.natAbs b.natAbs := Nat.gcd_pos_of_pos_right _ (by omega)
  have : Nat.gcd ((top t b).natAbs * Nat.gcd t.natAbs b.natAbs) ((bot t b).natAbs * Nat.gcd t.natAbs b.natAbs) = Nat.gcd t.natAbs b.natAbs := by rw [e1, e2]
  rw [Nat.gcd_mul_right] at this
  unfold Nat.Coprime
  exact Nat.eq_of_mul_eq_mul_right hp (by rw [this, Nat.one_mul])
/-- two in lowest terms that are worth the same are the same -/
theorem uniq {n d n' d' : Int} (hd : 0 < d) (hd' : 0 < d') (c : Nat.Coprime n.natAbs d.natAbs) (c' : Nat.Coprime n'.natAbs d'.natAbs) (e : n * d' = n' * d) : n = n' ∧ d = d' := by
  have ea : n.natAbs * d'.natAbs = n'.natAbs * d.natAbs := by rw [← Int.natAbs_mul, e, Int.natAbs_mul]
  have h1 : d.natAbs ∣ d'.natAbs := c.symm.dvd_of_dvd_mul_left ⟨n'.natAbs, by rw [ea, Nat.mul_comm]⟩
  have h2 : d'.natAbs ∣ d.natAbs := c'.symm.dvd_of_dvd_mul_left ⟨n.natAbs, by rw [← ea, Nat.mul_comm]⟩
  have h3 : d.natAbs = d'.natAbs := Nat.dvd_antisymm h1 h2
  have h4 : d = d' := by omega
  subst h4
  exact ⟨Int.eq_of_mul_eq_mul_right (by omega) e, rfl⟩
theorem same {t b t' b' : Int} (h : b ≠ 0) (h' : b' ≠ 0) (e : t * b' = t' * b) : top t b = top t' b' ∧ bot t b = bot t' b' := by
  refine uniq (bot_pos h) (bot_pos h') (cop h) (cop h') ?_
  have e1 := top_mul (t := t) h
  have e2 := bot_mul (t := t) h
  have e3 := top_mul (t := t') h'
  have e4 := bot_mul (t := t') h'
  refine Int.eq_of_mul_eq_mul_right (byv_ne (t := t) h) (Int.eq_of_mul_eq_mul_right (byv_ne (t := t') h') ?_)
  calc top t b * bot t' b' * byv t b * byv t' b' = (top t b * byv t b) * (bot t' b' * byv t' b') := by ac_rfl
    _ = t * b' := by rw [e1, e4]
    _ = t' * b := e
    _ = (top t' b' * byv t' b') * (bot t b * byv t b) := by rw [e3, e2]
    _ = top t' b' * bot t b * byv t b * byv t' b' := by ac_rfl
/-- what is in lowest terms stays -/
theorem keeps {n d : Int} (hd : 0 < d) (c : Nat.Coprime n.natAbs d.natAbs) : top n d = n ∧ bot n d = d := by
  have h : d ≠ 0 := by omega
  refine uniq (bot_pos h) hd (cop h) c ?_
  have e1 := top_mul (t := n) h
  have e2 := bot_mul (t := n) h
  refine Int.eq_of_mul_eq_mul_right (byv_ne (t := n) h) ?_
  calc top n d * d * byv n d = (top n d * byv n d) * d := by ac_rfl
    _ = n * d := by rw [e1]
    _ = n * (bot n d * byv n d) := by rw [e2]
    _ = n * bot n d * byv n d := by ac_rfl
theorem one (t : Int) : top t 1 = t ∧ bot t 1 = 1 := keeps (by decide) (Nat.coprime_one_right _)
/-- worth: the fraction is the same number -/
theorem cross {t b : Int} (h : b ≠ 0) : top t b * b = t * bot t b := by
  have e1 := top_mul (t := t) h
  have e2 := bot_mul (t := t) h
  have e : top t b * b = top t b * (bot t b * byv t b) := by rw [e2]
  have e' : t * bot t b = (top t b * byv t b) * bot t b := by rw [e1]
  rw [e, e']; ac_rfl
theorem top_le {t b : Int} (h : b ≠ 0) : (top t b).natAbs ≤ t.natAbs := by
  have e1 : (top t b).natAbs * (byv t b).natAbs = t.natAbs := by rw [← Int.natAbs_mul, top_mul h]
  have : 0 < (byv t b).natAbs := by have := byv_ne (t := t) h; omega
  rw [← e1]; exact Nat.le_mul_of_pos_right _ this
theorem bot_le {t b : Int} (h : b ≠ 0) : (bot t b).natAbs ≤ b.natAbs := by
  have e1 : (bot t b).natAbs * (byv t b).natAbs = b.natAbs := by rw [← Int.natAbs_mul, bot_mul h]
  have : 0 < (byv t b).natAbs := by have := byv_ne (t := t) h; omega
  rw [← e1]; exact Nat.le_mul_of_pos_right _ this
theorem byv_le {t b : Int} (h : b ≠ 0) : (byv t b).natAbs ≤ b.natAbs := by
  rw [byv_natAbs]; exact Nat.le_of_dvd (by omega) (Nat.gcd_dvd_right _ _)
/-- minus and less -/
theorem neg_cop {n d : Int} (c : Nat.Coprime n.natAbs d.natAbs) : Nat.Coprime (0 - n).natAbs d.natAbs := by
  have : (0 - n).natAbs = n.natAbs := by omega
  rw [this]; exact c
/-- distributive, over lowest terms -/
theorem chain {a b c d e f : Int} (hb : b ≠ 0) (hd : d ≠ 0) (hf : f ≠ 0) :
    top (top (a * e) (b * f) * bot (c * e) (d * f) + top (c * e) (d * f) * bot (a * e) (b * f)) (bot (a * e) (b * f) * bot (c * e) (d * f))
      = top (top (a * d + c * b) (b * d) * e) (bot (a * d + c * b) (b * d) * f) ∧
    bot (top (a * e) (b * f) * bot (c * e) (d * f) + top (c * e) (d * f) * bot (a * e) (b * f)) (bot (a * e) (b * f) * bot (c * e) (d * f))
      = bot (top (a * d + c * b) (b * d) * e) (bot (a * d + c * b) (b * d) * f) := by
  have h1 : b * f ≠ 0 := Int.mul_ne_zero hb hf
  have h2 : d * f ≠ 0 := Int.mul_ne_zero hd hf
  have h3 : b * d ≠ 0 := Int.mul_ne_zero hb hd
  have p1 := bot_pos (t := a * e) h1
  have p2 := bot_pos (t := c * e) h2
  have p3 := bot_pos (t := a * d + c * b) h3
  have x1 := cross (t := a * e) h1
  have x2 := cross (t := c * e) h2
  have x3 := cross (t := a * d + c * b) h3
  generalize top (a * e) (b * f) = n1 at *
  generalize bot (a * e) (b * f) = d1 at *
  generalize top (c * e) (d * f) = n2 at *
  generalize bot (c * e) (d * f) = d2 at *
  generalize top (a * d + c * b) (b * d) = n3 at *
  generalize bot (a * d + c * b) (b * d) = d3 at *
  refine same (Int.mul_ne_zero (by omega) (by omega)) (Int.mul_ne_zero (by omega) hf) ?_
  -- (n1 d2 + n2 d1) (d3 f) = (n3 e) (d1 d2)
  refine Int.eq_of_mul_eq_mul_right h3 (Int.eq_of_mul_eq_mul_right hf ?_)
  have L : (n1 * d2 + n2 * d1) * (d3 * f) * (b * d) * f = ((n1 * (b * f)) * (d2 * d * d3) + (n2 * (d * f)) * (d1 * b * d3)) * f := by
    simp only [Int.add_mul, Int.mul_add]
    congr 1 <;> ac_rfl
  have R : n3 * e * (d1 * d2) * (b * d) * f = (n3 * (b * d)) * (e * d1 * d2 * f) := by ac_rfl
  rw [L, R, x1, x2, x3]
  simp only [Int.add_mul, Int.mul_add]
  congr 1 <;> ac_rfl
end RT

set_option Elab.async false
set_option maxRecDepth 100000
namespace RX
open PySem PySem.Spec PyProof.Rows L2
/-- // by a divisor of either sign, below 2 ^ 9000 -/
def CDivZ (_ j : Int) : Prop := j ≠ 0 ∧ j.natAbs.log2 < 9000
theorem op_fdivZ {X : Cx} : OpR X (binaryOp .FloorDiv) (rI CDivZ fun i j => .int (i.fdiv j)) := opI fun _ _ _ _ _ _ _ hc q => floordiv_int hc.1 q (.inl (PyProof.noPylong_of_log2 hc.2))
theorem divZ {i j : Int} {b : Nat} (h : j ≠ 0) (hb : j.natAbs < 2 ^ b) (h0 : 0 < b) (h9 : b ≤ 9000) : CDivZ i j := ⟨h, Nat.lt_of_lt_of_le (PySem.Flt.log2_lt_of h0 hb) h9⟩
/-- the class at C has the operator op as the def at f -/
structure OpOf (K : PySem.W.Frag) (C : Addr) (x : Str) (f : Addr) : Prop where
  first : PySem.W.selfFirst K C = true
  at_ : PySem.W.findIn K (.ref C) x = some (some (.ref f))
  fn : PySem.W.isFn K (.ref f) = true
/-- a op b, both instances of the class at C: what the operator's def promises; it hands back an object -/
def rOwn (C : Addr) (sp : Sp) (E : XK) : R2 := fun x y H Q => ∃ a b dx dy fs gs, x = .ref a ∧ y = .ref b ∧ H a = some (.ins C dx fs) ∧ H b = some (.ins C dy gs) ∧ sp [.ref a, .ref b] H (fun v H' => (∃ c, v = .ref c) ∧ Q v H') E
def rOwn1 (C : Addr) (sp : Sp) (E : XK) : V → Hp → VK → Prop := fun x H Q => ∃ a dx fs, x = .ref a ∧ H a = some (.ins C dx fs) ∧ sp [.ref a] H Q E
section
variable {X : Cx} {CX : CXT} {k : Nat} {C f : Addr} {fd : FuncData} {ps : List Str} {sp : Sp} {E : XK}
theorem op_own {op : Operator} (O : OpOf X.K C (PySem.dunder op.info.2) f) (F : FnOk X.prog X.w X.K X.mg X.base CX k f fd ps sp) (hr : Room k X.A) (hb : Binds X.K fd ps []) (hx : Passes CX X E) : OpR X (binaryOp op) (rOwn C sp E) := by
  intro pins s σ H x y v u Q I rx ry h
  obtain ⟨a, b, dx, dy, fs, gs, rfl, rfl, ha, hb', hs⟩ := h
  cases rx
  cases ry
  obtain ⟨mA, J, _⟩ := ins_get I.hok ha
  obtain ⟨mB, J', _⟩ := ins_get I.hok hb'
  obtain ⟨od, J, _⟩ := J.look
  obtain ⟨od', J', _⟩ := J'.look
  obtain ⟨m, hF⟩ := I.fr
  refine PySem.W.binop_K hF I.ok.mod.kin J J'.type O.first O.at_ O.fn ?_
  refine thn (run_fn (us := [.ref a, .ref b]) (vs := [.ref a, .ref b]) (dvs := []) (ds := []) F hr hb .nil hx I (.cons rfl (.cons rfl .nil)) hs) fun w' s' hq => ?_
  obtain ⟨z, H', I', rz, ⟨c, ez⟩, q⟩ := hq
  subst ez
  cases rz
  exact ⟨.ref c, H', I', rfl, q⟩
theorem un_own {op : UnaryOp} (h1 : op = .USub) (hs : PySem.W.findIn X.K (.ref C) "__neg__" = some (some (.ref f))) (hf : PySem.W.isFn X.K (.ref f) = true) (F : FnOk X.prog X.w X.K X.mg X.base CX k f fd ps sp) (hr : Room k X.A) (hb : Binds X.K fd ps []) (hx : Passes CX X E) : UnR X (unaryOp op) (rOwn1 C sp E) := by
  subst h1
  intro pins s σ H x v Q I rx h
  obtain ⟨a, dx, fs, rfl, ha, hsp⟩ := h
  cases rx
  obtain ⟨mA, J, _⟩ := ins_get I.hok ha
  obtain ⟨od, J, _⟩ := J.look
  obtain ⟨m, hF⟩ := I.fr
  refine PySem.W.ksp_neg hF I.ok.mod.kin J hs hf ?_
  exact run_fn (us := [.ref a]) (vs := [.ref a]) (dvs := []) (ds := []) F hr hb .nil hx I (.cons rfl .nil) hsp
end
end RX

set_option Elab.async false
set_option maxRecDepth 100000
namespace RX
open PySem L2
def topS (i : Nat) : Stmt := PySem.Challenge.pw_wordworth_k12_machine_shapes.main.body.getD i (.Pass ⟨0, 0, 0, 0⟩)
abbrev sInit : Stmt := inClass (topS 15) 0
abbrev sAdd : Stmt := inClass (topS 15) 1
abbrev sSub : Stmt := inClass (topS 15) 2
abbrev sMul : Stmt := inClass (topS 15) 3
abbrev sNeg : Stmt := inClass (topS 15) 4
/-! ### a Ratio -/
theorem tb : ¬ (("top" : Str) = "bottom") := by decide +kernel
def rf (n d : Int) : List (Str × V) := putF "bottom" (.int d) (putF "top" (.int n) [])
theorem rf_top (n d : Int) : (rf n d).lookup ("top" : Str) = some (.int n) := by
  unfold rf
  rw [lookup_putF, if_neg tb, lookup_putF, if_pos rfl]
theorem rf_bot (n d : Int) : (rf n d).lookup ("bottom" : Str) = some (.int d) := by
  unfold rf
  rw [lookup_putF, if_pos rfl]
theorem rf_no (n d : Int) {m : Str} (h1 : ¬ m = "bottom") (h2 : ¬ m = "top") : (rf n d).lookup m = none := by
  unfold rf
  rw [lookup_putF, if_neg h1, lookup_putF, if_neg h2]
  all_goals rfl
/-- the Ratio n / d stands at p -/
def RatAt (C : Addr) (H : Hp) (p : Addr) (n d : Int) : Prop := ∃ dx, H p = some (.ins C dx (rf n d))
theorem RatAt.same {C : Addr} {H H' : Hp} {p : Addr} {n d : Int} (s : Same H H') (h : RatAt C H p n d) : RatAt C H' p n d := let ⟨dx, e⟩ := h; ⟨dx, s _ _ e⟩
theorem Same.upd {H : Hp} {p : Addr} {o : HO} (h : H p = none) : Same H (upd H p o) := fun b x e => by
  rw [upd_ne (ne_of_none e h)]
  exact e
/-- of at most 4400 bits -/
def Sm (x : Int) : Prop := x.natAbs < 2 ^ 4400
/-- of at most 8900 bits -/
def Md (x : Int) : Prop := x.natAbs < 2 ^ 8900
theorem Sm.mul {x y : Int} (a : Sm x) (b : Sm y) : x.natAbs * y.natAbs < 2 ^ 8800 := by
  have := Nat.mul_lt_mul'' a b
  rw [← Nat.pow_add] at this
  exact this
theorem Sm.w {x y : Int} (a : Sm x) (b : Sm y) : CMulW x y := wide_mul a b (by decide) (by decide) (by decide)
theorem Sm.md {x y : Int} (a : Sm x) (b : Sm y) : Md (x * y) := by
  unfold Md
  rw [Int.natAbs_mul]
  exact Nat.lt_trans (Sm.mul a b) (Nat.pow_lt_pow_right (by decide) (by decide))
/-! ### promises -/
def spInit (C : Addr) : Sp := fun vs H Q _ => ∃ (p dx : Addr) (t b : Int), vs = [.ref p, .int t, .int b] ∧ H p = some (.ins C dx []) ∧ b ≠ 0 ∧ Md b ∧
  ∀ H' : Hp, RatAt C H' p (RT.top t b) (RT.bot t b) → (∀ c o, H c = some o → c ≠ p → H' c = some o) → Q .non H'
/-- of two Ratios: a new one -/
def spBin (C : Addr) (g g' : Int → Int → Int → Int → Int) : Sp := fun vs H Q _ => ∃ (p q : Addr) (n d m e : Int), vs = [.ref p, .ref q] ∧ RatAt C H p n d ∧ RatAt C H q m e ∧ d ≠ 0 ∧ e ≠ 0 ∧ Sm n ∧ Sm d ∧ Sm m ∧ Sm e ∧
  ∀ (r : Addr) (H' : Hp), Same H H' → H r = none → RatAt C H' r (RT.top (g n d m e) (g' n d m e)) (RT.bot (g n d m e) (g' n d m e)) → Q (.ref r) H'
def spAdd (C : Addr) : Sp := spBin C (fun n d m e => n * e + m * d) (fun _ d _ e => d * e)
def spSub (C : Addr) : Sp := spBin C (fun n d m e => n * e - m * d) (fun _ d _ e => d * e)
def spMul (C : Addr) : Sp := spBin C (fun n _ m _ => n * m) (fun _ d _ e => d * e)
def spNeg (C : Addr) : Sp := fun vs H Q _ => ∃ (p : Addr) (n d : Int), vs = [.ref p] ∧ RatAt C H p n d ∧ d ≠ 0 ∧ Sm d ∧
  ∀ (r : Addr) (H' : Hp), Same H H' → H r = none → RatAt C H' r (RT.top (-n) d) (RT.bot (-n) d) → Q (.ref r) H'
structure TxtR (K : PySem.W.Frag) (mg : Str → Option Value) (C : Addr) : Prop where
  cl : Cls K C
  nT : NoAttr K C "top"
  nB : NoAttr K C "bottom"
  mgC : mg "Ratio" = some (.ref C)
  gcd : mg "gcd" = some (.builtin "math.gcd")
section
variable {P : Program} {w : World} {K : PySem.W.Frag} {mg : Str → Option Value} {base : Heap}
theorem scI : FnScope ["self", "top", "bottom", "shared", "by"] ["self", "top", "bottom"] (defScope sInit) := ⟨rfl, rfl, rfl, by decide +kernel, rfl, by decide +kernel, by decide +kernel⟩
theorem ok_init {f C : Addr} {fd : FuncData} (F : FunD K "__init__" "Ratio.__init__" (defArgs sInit) (defBody sInit) (defScope sInit) [.int 1] [] f fd) (T : TxtR K mg C) : FnOk P w K mg base CX0 1 f fd ["self", "top", "bottom"] (spInit C) := by
  refine F.ok scI (fun vs H Q E h => ?_) (fun cdv A outer s H vs Q E hr h => ?_)
  · obtain ⟨p, dx, t, b, rfl, _⟩ := h
    rfl
  · obtain ⟨p, dx, t, b, rfl, hp, hb, hz, k⟩ := h
    refine ⟨_, pss_cons (ps_if (pt_cmpR op_eq (pv 2) pe_int (nomark _)) (pss_one ps_never) pss_nil)
      (pss_cons (ps_set (i := 3) scI.nd rfl (Or.inl rfl) (pe_callBfun cr_gcd (by rfl) T.gcd (pa_cons (pv 1) (pa_cons (pv 2) pa_nil))))
      (pss_cons (ps_set (i := 4) scI.nd rfl (Or.inl rfl) (pe_ifExp (pt_cmpR op_gt (pv 2) pe_int (nomark _)) (pv 3) (pe_un un_neg (pv 3))))
      (pss_cons (ps_fld (pv 0) (pe_op op_fdivZ (pv 1) (pv 4)) rfl)
      (pss_one (ps_fld (pv 0) (pe_op op_fdivZ (pv 2) (pv 4)) rfl))))), ?_⟩
    refine ⟨_, rfl, rfl, _, rfl, ?_⟩
    refine ite2 (fun z => ?_) (fun _ => ?_)
    · have z' := of_decide_eq_true z
      injection z' with z'
      exact absurd z' hb
    refine ⟨_, rfl, _, rfl, t, b, rfl, ?_⟩
    refine ⟨_, rfl, _, _, rfl, rfl, _, rfl, ?_⟩
    have by_ne := RT.byv_ne (t := t) hb
    have by_le := RT.byv_le (t := t) hb
    have hdiv : ∀ x y : Int, y = RT.byv t b → CDivZ x y := fun x y e => by
      subst e
      exact divZ by_ne (Nat.lt_of_le_of_lt by_le hz) (by decide) (by decide)
    have key : (if decide (b > 0) = true then RT.gg t b else -RT.gg t b) = RT.byv t b := by
      unfold RT.byv
      by_cases h0 : b > 0
      · rw [if_pos h0, if_pos (decide_eq_true h0)]
      · rw [if_neg h0, if_neg (by rw [decide_eq_false h0]; exact Bool.false_ne_true)]
    have fin : ∀ x : Int, x = RT.byv t b → Q .non (upd (upd H p (.ins C dx (putF "top" (.int (t.fdiv x)) []))) p (.ins C dx (putF "bottom" (.int (b.fdiv x)) (putF "top" (.int (t.fdiv x)) [])))) := fun x e => by
      subst e
      refine k _ ⟨dx, upd_same⟩ fun c o hc ne => ?_
      rw [upd_ne ne, upd_ne ne]
      exact hc
    refine ite2 (fun z => ?_) (fun z => ?_)
    · rw [if_pos z] at key
      refine ⟨_, rfl, _, rfl, _, rfl, _, _, rfl, rfl, (hdiv t _ key), _, rfl, p, C, dx, [], rfl, hp, T.cl, T.nT, (by show 0 < 1000; decide), ?_⟩
      exact ⟨_, rfl, _, rfl, _, _, rfl, rfl, (hdiv b _ key), _, rfl, p, C, dx, _, rfl, upd_same, T.cl, T.nB, (by show 1 < 1000; decide), fin _ key⟩
    · rw [if_neg z] at key
      refine ⟨_, rfl, _, rfl, _, rfl, _, rfl, _, _, rfl, rfl, (hdiv t _ key), _, rfl, p, C, dx, [], rfl, hp, T.cl, T.nT, (by show 0 < 1000; decide), ?_⟩
      exact ⟨_, rfl, _, rfl, _, _, rfl, rfl, (hdiv b _ key), _, rfl, p, C, dx, _, rfl, upd_same, T.cl, T.nB, (by show 1 < 1000; decide), fin _ key⟩
/-- Ratio(t, b), both written: the rule's own question answered -/
theorem make_in {C : Addr} {H : Hp} {t b : Int} {Q : VK} {E : XK} (hb : b ≠ 0) (hz : Md b) (k : ∀ (r : Addr) (H' : Hp), Same H H' → H r = none → RatAt C H' r (RT.top t b) (RT.bot t b) → Q (.ref r) H') :
    ∀ x dx, H x = none → H dx = none → dx ≠ x → spInit C (.ref x :: ([.int t, .int b] ++ [])) (upd (upd H dx (.own x)) x (.ins C dx [])) (fun v H2 => v = .non ∧ Q (.ref x) H2) E := by
  intro x dx nx nd ne
  exact ⟨x, dx, t, b, rfl, upd_same, hb, hz, fun H' hR kp => ⟨rfl, k x H' (Same.made nx nd kp) nx hR⟩⟩
theorem scA : FnScope ["self", "other", "top"] ["self", "other"] (defScope sAdd) := ⟨rfl, rfl, rfl, by decide +kernel, rfl, by decide +kernel, by decide +kernel⟩
theorem scS : FnScope ["self", "other", "top"] ["self", "other"] (defScope sSub) := ⟨rfl, rfl, rfl, by decide +kernel, rfl, by decide +kernel, by decide +kernel⟩
theorem scM : FnScope ["self", "other"] ["self", "other"] (defScope sMul) := ⟨rfl, rfl, rfl, by decide +kernel, rfl, by decide +kernel, by decide +kernel⟩
theorem scN : FnScope ["self"] ["self"] (defScope sNeg) := ⟨rfl, rfl, rfl, by decide +kernel, rfl, by decide +kernel, by decide +kernel⟩
section
variable {f fI C : Addr} {fd fdI : FuncData} {k : Nat} (T : TxtR K mg C) (M : Mk K C fI) (GI : FnOk P w K mg base CX0 1 fI fdI ["self", "top", "bottom"] (spInit C)) (bI : Binds K fdI ["self", "top", "bottom"] [])
include T M GI bI
theorem ok_add (F : Fun K "__add__" "Ratio.__add__" sAdd f fd) : FnOk P w K mg base CX0 3 f fd ["self", "other"] (spAdd C) := by
  refine F.ok scA (fun vs H Q E h => ?_) (fun cdv A outer s H vs Q E hr h => ?_)
  · obtain ⟨p, q, n, d, m, e, rfl, _⟩ := h
    rfl
  · obtain ⟨p, q, n, d, m, e, rfl, ⟨dx, hp⟩, ⟨dy, hq⟩, hd, he, sn, sd, sm, se, kk⟩ := h
    refine ⟨_, pss_cons (ps_set (i := 2) scA.nd rfl (Or.inl rfl) (pe_op op_add (pe_op op_mulW (pe_fld (pv 0) rfl) (pe_fld (pv 1) rfl)) (pe_op op_mulW (pe_fld (pv 1) rfl) (pe_fld (pv 0) rfl))))
      (pss_one (ps_ret (pe_make M GI hr rfl T.mgC bI .nil pass0 (pa_cons (pv 2) (pa_cons (pe_op op_mulW (pe_fld (pv 0) rfl) (pe_fld (pv 1) rfl)) pa_nil))))), ?_⟩
    refine ⟨_, rfl, p, C, dx, _, _, rfl, hp, T.cl, T.nT, rf_top _ _, _, rfl, q, C, dy, _, _, rfl, hq, T.cl, T.nB, rf_bot _ _, _, _, rfl, rfl, Sm.w sn se,
      _, rfl, q, C, dy, _, _, rfl, hq, T.cl, T.nT, rf_top _ _, _, rfl, p, C, dx, _, _, rfl, hp, T.cl, T.nB, rf_bot _ _, _, _, rfl, rfl, Sm.w sm sd, _, _, rfl, rfl, ?_⟩
    refine ⟨_, rfl, _, rfl, p, C, dx, _, _, rfl, hp, T.cl, T.nB, rf_bot _ _, _, rfl, q, C, dy, _, _, rfl, hq, T.cl, T.nB, rf_bot _ _, _, _, rfl, rfl, Sm.w sd se, ?_⟩
    exact make_in (Int.mul_ne_zero hd he) (Sm.md sd se) kk
theorem ok_sub (F : Fun K "__sub__" "Ratio.__sub__" sSub f fd) : FnOk P w K mg base CX0 3 f fd ["self", "other"] (spSub C) := by
  refine F.ok scS (fun vs H Q E h => ?_) (fun cdv A outer s H vs Q E hr h => ?_)
  · obtain ⟨p, q, n, d, m, e, rfl, _⟩ := h
    rfl
  · obtain ⟨p, q, n, d, m, e, rfl, ⟨dx, hp⟩, ⟨dy, hq⟩, hd, he, sn, sd, sm, se, kk⟩ := h
    refine ⟨_, pss_cons (ps_set (i := 2) scS.nd rfl (Or.inl rfl) (pe_op op_sub (pe_op op_mulW (pe_fld (pv 0) rfl) (pe_fld (pv 1) rfl)) (pe_op op_mulW (pe_fld (pv 1) rfl) (pe_fld (pv 0) rfl))))
      (pss_one (ps_ret (pe_make M GI hr rfl T.mgC bI .nil pass0 (pa_cons (pv 2) (pa_cons (pe_op op_mulW (pe_fld (pv 0) rfl) (pe_fld (pv 1) rfl)) pa_nil))))), ?_⟩
    refine ⟨_, rfl, p, C, dx, _, _, rfl, hp, T.cl, T.nT, rf_top _ _, _, rfl, q, C, dy, _, _, rfl, hq, T.cl, T.nB, rf_bot _ _, _, _, rfl, rfl, Sm.w sn se,
      _, rfl, q, C, dy, _, _, rfl, hq, T.cl, T.nT, rf_top _ _, _, rfl, p, C, dx, _, _, rfl, hp, T.cl, T.nB, rf_bot _ _, _, _, rfl, rfl, Sm.w sm sd, _, _, rfl, rfl, ?_⟩
    refine ⟨_, rfl, _, rfl, p, C, dx, _, _, rfl, hp, T.cl, T.nB, rf_bot _ _, _, rfl, q, C, dy, _, _, rfl, hq, T.cl, T.nB, rf_bot _ _, _, _, rfl, rfl, Sm.w sd se, ?_⟩
    exact make_in (Int.mul_ne_zero hd he) (Sm.md sd se) kk
theorem ok_mul (F : Fun K "__mul__" "Ratio.__mul__" sMul f fd) : FnOk P w K mg base CX0 3 f fd ["self", "other"] (spMul C) := by
  refine F.ok scM (fun vs H Q E h => ?_) (fun cdv A outer s H vs Q E hr h => ?_)
  · obtain ⟨p, q, n, d, m, e, rfl, _⟩ := h
    rfl
  · obtain ⟨p, q, n, d, m, e, rfl, ⟨dx, hp⟩, ⟨dy, hq⟩, hd, he, sn, sd, sm, se, kk⟩ := h
    refine ⟨_, pss_one (ps_ret (pe_make M GI hr rfl T.mgC bI .nil pass0 (pa_cons (pe_op op_mulW (pe_fld (pv 0) rfl) (pe_fld (pv 1) rfl)) (pa_cons (pe_op op_mulW (pe_fld (pv 0) rfl) (pe_fld (pv 1) rfl)) pa_nil)))), ?_⟩
    refine ⟨_, rfl, p, C, dx, _, _, rfl, hp, T.cl, T.nT, rf_top _ _, _, rfl, q, C, dy, _, _, rfl, hq, T.cl, T.nT, rf_top _ _, _, _, rfl, rfl, Sm.w sn sm, ?_⟩
    refine ⟨_, rfl, p, C, dx, _, _, rfl, hp, T.cl, T.nB, rf_bot _ _, _, rfl, q, C, dy, _, _, rfl, hq, T.cl, T.nB, rf_bot _ _, _, _, rfl, rfl, Sm.w sd se, ?_⟩
    exact make_in (Int.mul_ne_zero hd he) (Sm.md sd se) kk
theorem ok_neg (F : Fun K "__neg__" "Ratio.__neg__" sNeg f fd) : FnOk P w K mg base CX0 3 f fd ["self"] (spNeg C) := by
  refine F.ok scN (fun vs H Q E h => ?_) (fun cdv A outer s H vs Q E hr h => ?_)
  · obtain ⟨p, n, d, rfl, _⟩ := h
    rfl
  · obtain ⟨p, n, d, rfl, ⟨dx, hp⟩, hd, sd, kk⟩ := h
    refine ⟨_, pss_one (ps_ret (pe_make M GI hr rfl T.mgC bI .nil pass0 (pa_cons (pe_un un_neg (pe_fld (pv 0) rfl)) (pa_cons (pe_fld (pv 0) rfl) pa_nil)))), ?_⟩
    refine ⟨_, rfl, p, C, dx, _, _, rfl, hp, T.cl, T.nT, rf_top _ _, _, rfl, ?_⟩
    refine ⟨_, rfl, p, C, dx, _, _, rfl, hp, T.cl, T.nB, rf_bot _ _, ?_⟩
    exact make_in hd (Nat.lt_trans sd (Nat.pow_lt_pow_right (by decide) (by decide))) kk
end
end
end RX

set_option Elab.async false
set_option maxRecDepth 100000
namespace RX
open PySem L2
/-! ### the draws -/
abbrev sFeed : Stmt := topS 37
abbrev sDraw : Stmt := topS 38
abbrev sGreat : Stmt := topS 39
/-- the feed stands at a: its cells, the next place, what is left of a great cell, the seed -/
structure FeedIs (H : Hp) (a cl : Addr) (cs : List Int) (i p s : Int) : Prop where
  hA : H a = some (.lst [.ref cl, .int i, .int p, .int s])
  hC : H cl = some (.lst (cs.map V.int))
  ne : cl ≠ a
  i0 : 0 ≤ i
  p0 : 0 ≤ p
  s0 : 0 ≤ s
  s1 : s < 2147483648
  len : cs.length ≤ 63
  nn : ∀ c ∈ cs, 0 ≤ c
def FeedAt (H : Hp) (a cl : Addr) : Prop := ∃ cs i p s, FeedIs H a cl cs i p s
/-- all but what stands at a is as it was -/
def But (a : Addr) (H H' : Hp) : Prop := ∀ b o, H b = some o → b ≠ a → H' b = some o
theorem But.refl (a : Addr) (H : Hp) : But a H H := fun _ _ h _ => h
theorem But.trans {a : Addr} {H H1 H2 : Hp} (x : But a H H1) (y : But a H1 H2) : But a H H2 := fun b o h n => y b o (x b o h n) n
theorem Same.but {a : Addr} {H H1 : Hp} (x : Same H H1) : But a H H1 := fun b o h _ => x b o h
theorem But.upd (a : Addr) (H : Hp) (o : HO) : But a H (L2.upd H a o) := fun b o' h n => by rw [upd_ne n]; exact h
theorem FeedIs.same {H H' : Hp} {a cl : Addr} {cs : List Int} {i p s : Int} (h : FeedIs H a cl cs i p s) (x : Same H H') : FeedIs H' a cl cs i p s :=
  ⟨x _ _ h.hA, x _ _ h.hC, h.ne, h.i0, h.p0, h.s0, h.s1, h.len, h.nn⟩
theorem FeedAt.same {H H' : Hp} {a cl : Addr} (h : FeedAt H a cl) (x : Same H H') : FeedAt H' a cl := let ⟨cs, i, p, s, f⟩ := h; ⟨cs, i, p, s, f.same x⟩
/-- the feed's list written anew -/
theorem FeedIs.put {H : Hp} {a cl : Addr} {cs : List Int} {i p s i' p' s' : Int} (h : FeedIs H a cl cs i p s) (i0 : 0 ≤ i') (p0 : 0 ≤ p') (s0 : 0 ≤ s') (s1 : s' < 2147483648) :
    FeedIs (upd H a (.lst [.ref cl, .int i', .int p', .int s'])) a cl cs i' p' s' :=
  ⟨upd_same, by rw [upd_ne h.ne]; exact h.hC, h.ne, i0, p0, s0, s1, h.len, h.nn⟩
def spFeed (K : PySem.W.Frag) : Sp := fun vs H Q _ => ∃ (a : Addr) (ns : List Int), vs = [.ref a] ∧ SqL K H a (ns.map V.int) ∧ ns.length ≤ 63 ∧ ∀ (r cl : Addr) (H' : Hp), Same H H' → H r = none → H cl = none → FeedAt H' r cl → Q (.ref r) H'
def spDraw : Sp := fun vs H Q _ => ∃ (a cl : Addr) (m : Int), vs = [.ref a, .int m] ∧ FeedAt H a cl ∧ 0 < m ∧ m < 1073741824 ∧ ∀ (r : Int) (H' : Hp), 0 ≤ r → r < m → FeedAt H' a cl → But a H H' → Q (.int r) H'
def spGreat : Sp := fun vs H Q _ => ∃ (a cl : Addr) (m : Int), vs = [.ref a, .int m] ∧ FeedAt H a cl ∧ 0 ≤ m ∧ m ≤ 100 ∧ ∀ (r : Int) (H' : Hp), 0 ≤ r → r < 100000 ^ m.toNat → FeedAt H' a cl → But a H H' → Q (.int r) H'
structure TxtL (mg : Str → Option Value) : Prop where
  abs : mg "abs" = none
  len : mg "len" = none
  int : mg "int" = none
  max : mg "max" = none
  range : mg "range" = none
  isi : mg "isinstance" = none
  bool : mg "bool" = none
section
variable {P : Program} {w : World} {K : PySem.W.Frag} {mg : Str → Option Value} {base : Heap}
theorem scFe : FnScope ["script", "cell"] ["script"] (defScope sFeed) := ⟨rfl, rfl, rfl, by decide +kernel, rfl, by decide +kernel, by decide +kernel⟩
theorem cut63 (xs : List V) (h : xs.length ≤ 63) : cutV xs none (some 63) = xs := by
  unfold cutV
  rw [show HT.sIx xs.length xs.length (some 63) = min 63 xs.length from HT.sIx_nat xs.length xs.length 63, HT.sIx_none, Nat.min_eq_right h, List.drop_zero, Nat.sub_zero]
  exact List.take_length
theorem ok_feed {f : Addr} {fd : FuncData} (F : Fun K "_law_feed" "_law_feed" sFeed f fd) (T : TxtL mg) : FnOk P w K mg base CX0 1 f fd ["script"] (spFeed K) := by
  refine F.ok scFe (fun vs H Q E h => ?_) (fun cdv A outer s H vs Q E hr h => ?_)
  · obtain ⟨a, ns, rfl, _⟩ := h
    rfl
  · obtain ⟨a, ns, rfl, hS, hl, k⟩ := h
    refine ⟨_, pss_one (ps_ret (pe_lst (pa_cons (pe_lc (own := [("cell", 1)]) (g := gName 1) (tt := tYes) rfl scFe.nd (pi_list (pe_slice sl_list (pv 0) po_none (po_some pe_int))) (blkOk_by (N := ["script", "cell"]) (sc := defScope sFeed) (by decide +kernel))
        (fun _ _ _ _ _ => pg_name (i := 1) scFe.nd rfl (Or.inl rfl)) (fun _ _ _ _ _ => pts_nil) (fun _ _ _ _ _ => pe_callB call_abs (by rfl) T.abs (by decide +kernel) (pa_cons (pv 1) pa_nil)))
      (pa_cons pe_int (pa_cons pe_int (pa_cons (pe_op op_add pe_int (pe_callB call_len_seq (by rfl) T.len PySem.boot_len (pa_cons (pv 0) pa_nil))) pa_nil)))))), ?_⟩
    refine ⟨.ref a, rfl, 63, rfl, a, ns.map V.int, rfl, hS, fun c nc => ?_⟩
    rw [cut63 _ (by rw [List.length_map]; exact hl)]
    have s1 : Same H (upd H c (.lst (ns.map V.int))) := Same.upd nc
    refine ⟨c, rfl, ⟨_, SqL.of upd_same⟩, fun D nD => ?_⟩
    have ncD : c ≠ D := ne_of_none upd_same nD
    have nD0 : H D = none := s1.free nD
    refine lc_list (K := K) (a := c) (xs := ns.map V.int) (fun i H2 => Same H H2 ∧ H2 c = some (.lst (ns.map V.int)) ∧ H2 D = some (.lst (((ns.take i).map fun z => if z < 0 then -z else z).map V.int))) ⟨s1.trans (Same.upd nD), by rw [upd_ne ncD]; exact upd_same, upd_same⟩ (fun i H2 _ h => SqL.of h.2.1) ?_ ?_
    · rintro i x H2 hi ⟨s2, hq, hD⟩
      obtain ⟨z, hz, rfl⟩ : ∃ z, ns[i]? = some z ∧ V.int z = x := by
        rw [List.getElem?_map] at hi
        cases e : ns[i]? with
        | none => rw [e] at hi; cases hi
        | some z => rw [e] at hi; exact ⟨z, rfl, Option.some.inj hi⟩
      have hi63 : i < ns.length := (List.getElem?_eq_some_iff.mp hz).1
      refine ⟨rfl, ?_⟩
      refine ⟨_, rfl, z, rfl, _, hD, ?_, ?_⟩
      · rw [List.length_map, List.length_map, List.length_take]
        exact Nat.lt_of_le_of_lt (Nat.min_le_left _ _) (small1000 (by omega))
      · refine ⟨fun b o e => ?_, by rw [upd_ne ncD]; exact hq, ?_⟩
        · rw [upd_ne (ne_of_none e nD0)]
          exact s2 _ _ e
        · rw [upd_same, List.take_add_one, hz, List.map_append, List.map_append]
          rfl
    · rintro H2 ⟨s2, hq, hD⟩
      rw [List.length_map, List.take_length] at hD
      refine ⟨_, rfl, a, _, rfl, .inl (s2.seq hS), _, _, rfl, rfl, (by show 4 ≤ sizeLine; decide), fun r nr => ?_⟩
      have nDr : D ≠ r := ne_of_none hD nr
      refine k r D _ (s2.trans (Same.upd nr)) (s2.free nr) nD0 ⟨ns.map fun z => if z < 0 then -z else z, 0, 0, _, upd_same, by rw [upd_ne nDr]; exact hD, nDr, by omega, by omega, ?_, ?_, ?_, ?_⟩
      · rw [List.length_map]; omega
      · rw [List.length_map]; omega
      · rw [List.length_map]; exact hl
      · intro c hc
        obtain ⟨z, _, rfl⟩ := List.mem_map.mp hc
        show (0 : Int) ≤ if z < 0 then -z else z
        split <;> omega
theorem scDr : FnScope ["feed", "limit", "cells", "cell", "found"] ["feed", "limit"] (defScope sDraw) := ⟨rfl, rfl, rfl, by decide +kernel, rfl, by decide +kernel, by decide +kernel⟩
theorem ok_draw {f : Addr} {fd : FuncData} (F : Fun K "_law_draw" "_law_draw" sDraw f fd) (T : TxtL mg) : FnOk P w K mg base CX0 1 f fd ["feed", "limit"] spDraw := by
  refine F.ok scDr (fun vs H Q E h => ?_) (fun cdv A outer s H vs Q E hr h => ?_)
  · obtain ⟨a, cl, m, rfl, _⟩ := h
    rfl
  · obtain ⟨a, cl, m, rfl, ⟨cs, i, p, s, f0⟩, hm, hm2, k⟩ := h
    refine ⟨_, pss_cons (ps_set (i := 2) scDr.nd rfl (.inl rfl) (pe_ix ix_list (pv 0) pe_int (fun _ _ => rfl)))
      (C8.pss_cut (ps_if (PW.pt (pw_and (pt_cmpR op_eq (pe_ix ix_list (pv 0) pe_int (fun _ _ => rfl)) pe_int (nomark _)) (pw_and1 (pt_cmpR op_lt (pe_ix ix_list (pv 0) pe_int (fun _ _ => rfl)) (pe_callB call_len_seq (by rfl) T.len PySem.boot_len (pa_cons (pv 2) pa_nil)) (nomark _)))))
        (pss_cons (ps_set (i := 3) scDr.nd rfl (.inl rfl) (pe_ix ix_list (pv 2) (pe_ix ix_list (pv 0) pe_int (fun _ _ => rfl)) (fun _ _ => rfl)))
        (pss_cons (ps_asg (pe_op op_add (pe_ix ix_list (pv 0) pe_int (fun _ _ => rfl)) pe_int) (pg_sub (pv 0) pe_int set_list))
        (pss_one (ps_if (pt_cmpR op_ge (pv 3) (pe_op op_pow pe_int pe_int) (nomark _))
          (pss_one (ps_asg (pv 3) (pg_sub (pv 0) pe_int set_list)))
          (pss_one (ps_asg (pe_op op_mod (pe_callTy call_int1 (by rfl) T.int (by decide +kernel) (pa_cons (pe_op op_add (pe_op op_add (pe_op op_mul (pe_ix ix_list (pv 0) pe_int (fun _ _ => rfl)) pe_int) (pe_op op_mul (pv 3) pe_int)) pe_int) pa_nil)) pe_int) (pg_sub (pv 0) pe_int set_list)))))))
        pss_nil)
      (C8.pss_cut (ps_if (pt_cmpR op_gt (pe_ix ix_list (pv 0) pe_int (fun _ _ => rfl)) pe_int (nomark _))
        (pss_cons (ps_set (i := 4) scDr.nd rfl (.inl rfl) (pe_op op_mod (pe_callTy call_int1 (by rfl) T.int (by decide +kernel) (pa_cons (pe_ix ix_list (pv 0) pe_int (fun _ _ => rfl)) pa_nil)) (pv 1)))
        (pss_cons (ps_asg (pe_op op_fdiv (pe_ix ix_list (pv 0) pe_int (fun _ _ => rfl)) (pv 1)) (pg_sub (pv 0) pe_int set_list))
        (pss_one (ps_ret (pv 4)))))
        pss_nil)
      (pss_cons (ps_asg (pe_op op_mod (pe_callTy call_int1 (by rfl) T.int (by decide +kernel) (pa_cons (pe_op op_add (pe_op op_mul (pe_ix ix_list (pv 0) pe_int (fun _ _ => rfl)) pe_int) pe_int) pa_nil)) pe_int) (pg_sub (pv 0) pe_int set_list))
      (pss_one (ps_ret (pe_op op_mod (pe_callTy call_int1 (by rfl) T.int (by decide +kernel) (pa_cons (pe_op op_add (pe_op op_fdiv (pe_op op_mul (pe_ix ix_list (pv 0) pe_int (fun _ _ => rfl)) (pe_ix ix_list (pv 0) pe_int (fun _ _ => rfl))) pe_int) (pe_op op_fdiv (pe_ix ix_list (pv 0) pe_int (fun _ _ => rfl)) pe_int)) pa_nil)) (pv 1))))))), ?_⟩
    -- cells = feed[0]
    refine ⟨_, rfl, a, _, 0, _, rfl, rfl, SqL.of f0.hA, rfl, ?_⟩
    -- behind the first if: the feed again
    refine ⟨fun σ' H' => ∃ x2 x3 x4, σ' = [some (.ref a), some (.int m), x2, x3, x4] ∧ FeedAt H' a cl ∧ But a H H', ?_, ?_⟩
    · refine ⟨_, rfl, a, _, 2, _, rfl, rfl, SqL.of f0.hA, rfl, rfl, _, rfl, ?_⟩
      refine ite2 (fun _ => ?_) (fun _ => ?_)
      · refine ⟨_, rfl, a, _, 1, _, rfl, rfl, SqL.of f0.hA, rfl, _, rfl, cl, _, rfl, .inl (SqL.of f0.hC), _, _, rfl, rfl, _, rfl, ?_⟩
        refine ite2 (fun z => ?_) (fun _ => ?_)
        · have z := of_decide_eq_true z
          rw [List.length_map] at z
          have hi : (i.toNat : Int) = i := Int.toNat_of_nonneg f0.i0
          have hlt : i.toNat < cs.length := by omega
          have hc : (cs.map V.int)[i.toNat]? = some (V.int cs[i.toNat]) := by
            rw [List.getElem?_map, List.getElem?_eq_getElem hlt]
            rfl
          have c0 : 0 ≤ cs[i.toNat] := f0.nn _ (List.getElem_mem hlt)
          generalize hcv : cs[i.toNat] = cv at hc c0
          have f1 := f0.put (i' := i + 1) (by have := f0.i0; omega) f0.p0 f0.s0 f0.s1
          refine ⟨_, rfl, _, rfl, a, _, 1, _, rfl, rfl, SqL.of f0.hA, rfl, cl, _, i, _, rfl, rfl, SqL.of f0.hC, at_of hi.symm hc, ?_⟩
          refine ⟨_, rfl, a, _, 1, _, rfl, rfl, SqL.of f0.hA, rfl, _, _, rfl, rfl, _, rfl, a, _, _, 1, rfl, rfl, f0.hA, rfl, ?_⟩
          refine ⟨_, rfl, _, _, rfl, rfl, (by show (0 : Int) ≤ 18 ∧ (18 : Int) ≤ 1000000 ∧ (10 : Int).natAbs < 2 ^ 64; decide), _, _, rfl, rfl, _, rfl, ?_⟩
          refine ite2 (fun _ => ?_) (fun _ => ?_)
          · refine ⟨_, rfl, _, rfl, a, _, _, 2, rfl, rfl, upd_same, rfl, ?_⟩
            exact ⟨_, _, _, rfl, ⟨cs, _, _, _, f1.put (i' := i + 1) (p' := cv) (s' := s) (by have := f0.i0; omega) c0 f0.s0 f0.s1⟩, (But.upd a H _).trans (But.upd a _ _)⟩
          · refine ⟨_, rfl, a, _, 3, _, rfl, rfl, SqL.of upd_same, rfl, _, _, rfl, rfl, .inr (by decide), _, rfl, _, _, rfl, rfl, .inr (by decide), _, _, rfl, rfl, _, _, rfl, rfl, .inl ⟨_, rfl, _, _, rfl, rfl, (by show (0 : Int) < 2147483647; decide), _, rfl, a, _, _, 3, rfl, rfl, upd_same, rfl, ?_⟩⟩
            refine ⟨_, _, _, rfl, ⟨cs, _, _, _, f1.put (i' := i + 1) (p' := p) (by have := f0.i0; omega) f0.p0 (Int.emod_nonneg _ (by decide)) (Int.lt_trans (Int.emod_lt_of_pos _ (by decide)) (by decide))⟩, (But.upd a H _).trans (But.upd a _ _)⟩
        · exact ⟨_, _, _, rfl, ⟨cs, i, p, s, f0⟩, But.refl a H⟩
      · exact ⟨_, _, _, rfl, ⟨cs, i, p, s, f0⟩, But.refl a H⟩
    · rintro σ' H1 ⟨x2, x3, x4, rfl, ⟨cs, i, p, s, f1⟩, b1⟩
      refine ⟨fun σ' H' => ∃ x2 x3 x4, σ' = [some (.ref a), some (.int m), x2, x3, x4] ∧ FeedAt H' a cl ∧ But a H H', ?_, ?_⟩
      · refine ⟨_, rfl, a, _, 2, _, rfl, rfl, SqL.of f1.hA, rfl, _, _, rfl, rfl, _, rfl, ?_⟩
        refine ite2 (fun z => ?_) (fun _ => ?_)
        · refine ⟨_, rfl, a, _, 2, _, rfl, rfl, SqL.of f1.hA, rfl, .inl ⟨_, rfl, _, rfl, _, _, rfl, rfl, hm, ?_⟩⟩
          refine ⟨_, rfl, a, _, 2, _, rfl, rfl, SqL.of f1.hA, rfl, _, rfl, _, _, rfl, rfl, ⟨hm, hm2⟩, _, rfl, a, _, _, 2, rfl, rfl, f1.hA, rfl, ?_⟩
          refine ⟨_, rfl, ?_⟩
          exact k _ _ (Int.emod_nonneg _ (by omega)) (Int.emod_lt_of_pos _ hm) ⟨cs, _, _, _, f1.put (i' := i) (s' := s) f1.i0 (Int.ediv_nonneg f1.p0 (by omega)) f1.s0 f1.s1⟩ (b1.trans (But.upd a _ _))
        · exact ⟨_, _, _, rfl, ⟨cs, i, p, s, f1⟩, b1⟩
      · rintro σ' H2 ⟨x2, x3, x4, rfl, ⟨cs, i, p, s, f2⟩, b2⟩
        refine ⟨_, rfl, a, _, 3, _, rfl, rfl, SqL.of f2.hA, rfl, _, _, rfl, rfl, .inr (by decide), _, _, rfl, rfl, .inl ⟨_, rfl, _, _, rfl, rfl, (by show (0 : Int) < 2147483629; decide), _, rfl, a, _, _, 3, rfl, rfl, f2.hA, rfl, ?_⟩⟩
        have e0 := Int.emod_nonneg (s * 16807 + 12345) (show (2147483629 : Int) ≠ 0 by decide)
        have e1 := Int.emod_lt_of_pos (s * 16807 + 12345) (show (0 : Int) < 2147483629 by decide)
        have f3 := f2.put (i' := i) (p' := p) (s' := (s * 16807 + 12345) % 2147483629) f2.i0 f2.p0 e0 (by omega)
        refine ⟨_, rfl, a, _, 3, _, rfl, rfl, SqL.of upd_same, rfl, _, rfl, a, _, 3, _, rfl, rfl, SqL.of upd_same, rfl, _, _, rfl, rfl, .inl ⟨by omega, by omega⟩, _, _, rfl, rfl, ⟨by decide, by decide⟩,
          _, rfl, a, _, 3, _, rfl, rfl, SqL.of upd_same, rfl, _, _, rfl, rfl, ⟨by decide, by decide⟩, _, _, rfl, rfl, .inl ⟨_, rfl, _, rfl, _, _, rfl, rfl, hm, ?_⟩⟩
        exact k _ _ (Int.emod_nonneg _ (by omega)) (Int.emod_lt_of_pos _ hm) ⟨cs, _, _, _, f3⟩ (b2.trans (But.upd a _ _))
end
end RX

set_option Elab.async false
set_option maxRecDepth 100000
namespace RX
open PySem L2
abbrev sPair : Stmt := topS 40
/-- a pair of ints stands at p -/
def PairAt (H : Hp) (p : Addr) (n d : Int) : Prop := H p = some (.tup [.int n, .int d])
theorem PairAt.same {H H' : Hp} {p : Addr} {n d : Int} (h : PairAt H p n d) (s : Same H H') : PairAt H' p n d := s _ _ h
theorem PairAt.t {K : PySem.W.Frag} {H : Hp} {p : Addr} {n d : Int} (h : PairAt H p n d) : SqT K H p [.int n, .int d] := SqT.of h
def spPair : Sp := fun vs H Q _ => ∃ (t b : Int), vs = [.int t, .int b] ∧ b ≠ 0 ∧ Md b ∧ ∀ (r : Addr) (H' : Hp), Same H H' → H r = none → PairAt H' r (RT.top t b) (RT.bot t b) → Q (.ref r) H'
theorem But.free {a cl : Addr} {H H1 : Hp} {r : Addr} (x : But a H H1) (h : H1 r = none) (f : FeedAt H1 a cl) : H r = none := by
  cases q : H r with
  | none => rfl
  | some o =>
    by_cases e : r = a
    · subst e
      obtain ⟨cs, i, p, s, f⟩ := f
      rw [f.hA] at h
      cases h
    · rw [x r o q e] at h
      cases h
/-- a def of the law that is called by its name -/
structure CalN (P : Program) (w : World) (K : PySem.W.Frag) (mg : Str → Option Value) (base : Heap) (x : Str) (k : Nat) (ps : List Str) (sp : Sp) (f : Addr) (fd : FuncData) : Prop where
  G : FnOk P w K mg base CX0 k f fd ps sp
  m : mg x = some (.ref f)
  kp : PySem.W.keepIn K (.ref f) = true
  b : Binds K fd ps []
/-- of at most 500 bits -/
def Ti (x : Int) : Prop := x.natAbs < 2 ^ 500
theorem pw {a b : Nat} (h : a ≤ b) {x : Nat} (hx : x < 2 ^ a) : x < 2 ^ b := Nat.lt_of_lt_of_le hx (Nat.pow_le_pow_right (by decide) h)
theorem mulB {x y : Int} {a b : Nat} (ha : x.natAbs < 2 ^ a) (hb : y.natAbs < 2 ^ b) : (x * y).natAbs < 2 ^ (a + b) := wide_lt ha hb
theorem addB {x y : Int} {a : Nat} (ha : x.natAbs < 2 ^ a) (hb : y.natAbs < 2 ^ a) : (x + y).natAbs < 2 ^ (a + 1) := by
  have := Int.natAbs_add_le x y
  rw [Nat.pow_succ]
  omega
theorem topB {t b : Int} {a : Nat} (h : b ≠ 0) (ha : t.natAbs < 2 ^ a) : (RT.top t b).natAbs < 2 ^ a := Nat.lt_of_le_of_lt (RT.top_le h) ha
theorem botB {t b : Int} {a : Nat} (h : b ≠ 0) (ha : b.natAbs < 2 ^ a) : (RT.bot t b).natAbs < 2 ^ a := Nat.lt_of_le_of_lt (RT.bot_le h) ha
theorem botN {t b : Int} (h : b ≠ 0) : RT.bot t b ≠ 0 := by have := RT.bot_pos (t := t) h; omega
section
variable {P : Program} {w : World} {K : PySem.W.Frag} {mg : Str → Option Value} {base : Heap}
theorem scG : FnScope ["feed", "parts", "found", "k"] ["feed", "parts"] (defScope sGreat) := ⟨rfl, rfl, rfl, by decide +kernel, rfl, by decide +kernel, by decide +kernel⟩
theorem ok_great {f fD : Addr} {fd fdD : FuncData} (F : Fun K "_law_great" "_law_great" sGreat f fd) (T : TxtL mg) (GD : FnOk P w K mg base CX0 1 fD fdD ["feed", "limit"] spDraw) (mD : mg "_law_draw" = some (.ref fD)) (kD : PySem.W.keepIn K (.ref fD) = true) (bD : Binds K fdD ["feed", "limit"] []) :
    FnOk P w K mg base CX0 2 f fd ["feed", "parts"] spGreat := by
  refine F.ok scG (fun vs H Q E h => ?_) (fun cdv A outer s H vs Q E hr h => ?_)
  · obtain ⟨a, cl, m, rfl, _⟩ := h
    rfl
  · obtain ⟨a, cl, m, rfl, hF, h0, h1, k⟩ := h
    refine ⟨_, pss_cons (ps_set (i := 2) scG.nd rfl (.inl rfl) pe_int)
      (pss_cons (ps_for PassesOwn.never rfl (pi_range1 rfl T.range (pa_cons (pv 1) pa_nil)) (pg_name (i := 3) scG.nd rfl (.inl rfl))
        (pss_one (ps_set (i := 2) scG.nd rfl (.inl rfl) (pe_op op_add (pe_op op_mul (pv 2) pe_int) (pe_call GD hr rfl mD kD bD .nil pass0 (pa_cons (pv 0) (pa_cons pe_int pa_nil)))))))
      (pss_one (ps_ret (pv 2)))), ?_⟩
    refine ⟨_, rfl, m, rfl, by omega, by omega, for_range (n := m.toNat) (fun i σ H' => ∃ (x : Int) (y : Option V), σ = [some (.ref a), some (.int m), some (.int x), y] ∧ 0 ≤ x ∧ x < 100000 ^ i ∧ FeedAt H' a cl ∧ But a H H')
      ⟨0, none, rfl, by omega, by decide, hF, But.refl a H⟩ ?_ ?_⟩
    · rintro i σ H' hi ⟨x, y, rfl, x0, x1, f1, b1⟩
      refine ⟨_, rfl, _, _, rfl, rfl, .inr (by decide), _, rfl, a, cl, _, rfl, f1, by decide, by decide, fun r H2 r0 r1 f2 b2 => ?_⟩
      refine ⟨_, _, rfl, rfl, _, _, rfl, by omega, ?_, f2, b1.trans b2⟩
      rw [Int.pow_succ]
      omega
    · rintro σ H' ⟨x, y, rfl, x0, x1, f1, b1⟩
      exact ⟨_, rfl, k x H' x0 x1 f1 b1⟩
theorem scP : FnScope ["above", "below", "one", "two"] ["above", "below"] (defScope sPair) := ⟨rfl, rfl, rfl, by decide +kernel, rfl, by decide +kernel, by decide +kernel⟩
theorem ok_pair {f : Addr} {fd : FuncData} (F : Fun K "_law_pair" "_law_pair" sPair f fd) (T : TxtL mg) : FnOk P w K mg base CX0 1 f fd ["above", "below"] spPair := by
  refine F.ok scP (fun vs H Q E h => ?_) (fun cdv A outer s H vs Q E hr h => ?_)
  · obtain ⟨t, b, rfl, _⟩ := h
    rfl
  · obtain ⟨t, b, rfl, hb, hz, k⟩ := h
    refine ⟨_, pss_cons (ps_set (i := 2) scP.nd rfl (.inl rfl) (pe_callB call_abs (by rfl) T.abs (by decide +kernel) (pa_cons (pv 0) pa_nil)))
      (pss_cons (ps_set (i := 3) scP.nd rfl (.inl rfl) (pe_callB call_abs (by rfl) T.abs (by decide +kernel) (pa_cons (pv 1) pa_nil)))
      (pss_cons (ps_while PassesOwn.never (pt_cmpR op_gt (pv 3) pe_int (nomark _))
        (pss_one (ps_par (i := 2) (j := 3) (by rfl) scP.nd rfl rfl (by decide) rfl rfl (pa_cons (pv 3) (pa_cons (pe_op op_mod (pe_callTy call_int1 (by rfl) T.int (by decide +kernel) (pa_cons (pv 2) pa_nil)) (pv 3)) pa_nil)) (by rfl))))
      (C8.pss_cut (ps_if (pt_cmpR op_lt (pv 1) pe_int (nomark _)) (pss_one (ps_set (i := 2) scP.nd rfl (.inl rfl) (pe_op op_sub pe_int (pv 2)))) pss_nil)
      (pss_one (ps_ret (pe_tup (pa_cons (pe_op op_fdivZ (pv 0) (pv 2)) (pa_cons (pe_op op_fdivZ (pv 1) (pv 2)) pa_nil)))))))), ?_⟩
    refine ⟨_, rfl, t, rfl, _, rfl, b, rfl, ?_⟩
    have ab : ∀ x : Int, 0 ≤ (if x < 0 then -x else x) ∧ (if x < 0 then -x else x).natAbs = x.natAbs := fun x => by split <;> omega
    refine while_by (fun σ H' => ∃ x y : Int, σ = [some (.int t), some (.int b), some (.int x), some (.int y)] ∧ H' = H ∧ 0 ≤ x ∧ 0 ≤ y ∧ Nat.gcd x.natAbs y.natAbs = Nat.gcd t.natAbs b.natAbs)
      (fun σ _ => match σ with | [_, _, _, some (.int y)] => y.toNat | _ => 0)
      ⟨_, _, rfl, rfl, (ab t).1, (ab b).1, by rw [(ab t).2, (ab b).2]⟩ ?_ (fun σ H' R R' h q => by
        obtain ⟨v, hv, i, j, e1, e2, kk, e3, q⟩ := q
        exact ⟨v, hv, i, j, e1, e2, kk, e3, h _ _ q⟩)
    rintro σ H' ⟨x, y, rfl, rfl, x0, y0, g⟩
    refine ⟨_, rfl, _, _, rfl, rfl, _, rfl, ?_⟩
    refine ite2 (fun z => ?_) (fun z => ?_)
    · have z := of_decide_eq_true z
      refine ⟨_, rfl, _, rfl, .inl ⟨_, rfl, _, rfl, _, _, rfl, rfl, z, ?_⟩⟩
      have m0 := Int.emod_nonneg x (show y ≠ 0 by omega)
      have m1 := Int.emod_lt_of_pos x z
      refine ⟨_, _, rfl, ⟨_, _, rfl, rfl, y0, m0, ?_⟩, ?_⟩
      · rw [Nat.gcd_comm, ← g]
        have : (x % y).natAbs = x.natAbs % y.natAbs := by
          rw [Int.natAbs_emod_of_nonneg x0]
        rw [this, Nat.gcd_comm x.natAbs, Nat.gcd_rec y.natAbs x.natAbs]
      · show (x % y).toNat < y.toNat
        omega
    · have z : ¬ y > 0 := fun h => z (decide_eq_true h)
      have y00 : y = 0 := by omega
      subst y00
      have hg : x = RT.gg t b := by
        unfold RT.gg
        rw [← g]
        show x = ((Nat.gcd x.natAbs 0 : Nat) : Int)
        rw [Nat.gcd_zero_right]
        omega
      refine ⟨fun σ' H2 => σ' = [some (.int t), some (.int b), some (.int (RT.byv t b)), some (.int 0)] ∧ H2 = H', ?_, ?_⟩
      · refine ⟨_, rfl, _, _, rfl, rfl, _, rfl, ?_⟩
        refine ite2 (fun z => ?_) (fun z => ?_)
        · have z := of_decide_eq_true z
          refine ⟨_, rfl, _, _, rfl, rfl, ?_, rfl⟩
          have e : (0 : Int) - x = RT.byv t b := by
            unfold RT.byv
            rw [if_neg (by omega), hg]
            omega
          show [some (V.int t), some (V.int b), some (V.int (0 - x)), some (V.int 0)] = _
          rw [e]
        · have z : ¬ b < 0 := fun h => z (decide_eq_true h)
          refine ⟨?_, rfl⟩
          have e : x = RT.byv t b := by
            unfold RT.byv
            rw [if_pos (by omega), hg]
          rw [e]
      · rintro σ' H' ⟨rfl, rfl⟩
        have hdiv : ∀ x : Int, CDivZ x (RT.byv t b) := fun x => divZ (RT.byv_ne hb) (Nat.lt_of_le_of_lt (RT.byv_le hb) hz) (by decide) (by decide)
        refine ⟨_, rfl, _, rfl, _, _, rfl, rfl, hdiv t, _, rfl, _, rfl, _, _, rfl, rfl, hdiv b, (by show 2 ≤ sizeLine; decide), fun r nr => ?_⟩
        exact k r _ (Same.upd nr) nr upd_same
end
end RX

set_option Elab.async false
set_option maxRecDepth 100000
namespace RX
open PySem L2
abbrev sIsInt : Stmt := topS 43
abbrev sSame : Stmt := topS 44
def spIsInt : Sp := fun vs H Q _ => ∃ n : Int, vs = [.int n] ∧ Q (.bl true) H
/-- a Ratio and a pair that are the same -/
def spSame (C : Addr) : Sp := fun vs H Q _ => ∃ (p q : Addr) (n d : Int), vs = [.ref p, .ref q] ∧ RatAt C H p n d ∧ PairAt H q n d ∧ Q (.bl true) H
section
variable {P : Program} {w : World} {K : PySem.W.Frag} {mg : Str → Option Value} {base : Heap}
theorem scIs : FnScope ["actual"] ["actual"] (defScope sIsInt) := ⟨rfl, rfl, rfl, by decide +kernel, rfl, by decide +kernel, by decide +kernel⟩
theorem ok_isInt {f : Addr} {fd : FuncData} (F : Fun K "_law_is_integer" "_law_is_integer" sIsInt f fd) (T : TxtL mg) : FnOk P w K mg base CX0 1 f fd ["actual"] spIsInt := by
  refine F.ok scIs (fun vs H Q E h => ?_) (fun cdv A outer s H vs Q E hr h => ?_)
  · obtain ⟨n, rfl, _⟩ := h
    rfl
  · obtain ⟨n, rfl, k⟩ := h
    refine ⟨_, pss_one (ps_ret (pe_and (pe_callB call_isi (by rfl) T.isi (by decide +kernel) (pa_cons (pv 0) (pa_cons (pe_bltn (v := .ty "int") (by rfl) T.int (by decide +kernel) rfl) pa_nil)))
      (pe_one (pe_not (pe_callB call_isi (by rfl) T.isi (by decide +kernel) (pa_cons (pv 0) (pa_cons (pe_bltn (v := .ty "bool") (by rfl) T.bool (by decide +kernel) rfl) pa_nil))))))), ?_⟩
    refine ⟨_, rfl, _, _, _, _, true, rfl, .ty _, .base (.int n), kit_ty (by decide +kernel), true, rfl, ?_⟩
    refine iteT ?_
    exact ⟨_, rfl, _, _, _, _, false, rfl, .ty _, .base (.int n), kit_ty (by decide +kernel), false, rfl, k⟩
theorem scSa : FnScope ["actual", "due"] ["actual", "due"] (defScope sSame) := ⟨rfl, rfl, rfl, by decide +kernel, rfl, by decide +kernel, by decide +kernel⟩
theorem ok_same {f fI C : Addr} {fd fdI : FuncData} (F : Fun K "_law_same" "_law_same" sSame f fd) (T : TxtL mg) (R : TxtR K mg C) (c : C8.InsC K C) (GI : FnOk P w K mg base CX0 1 fI fdI ["actual"] spIsInt) (mI : mg "_law_is_integer" = some (.ref fI)) (kI : PySem.W.keepIn K (.ref fI) = true) (bI : Binds K fdI ["actual"] []) :
    FnOk P w K mg base CX0 2 f fd ["actual", "due"] (spSame C) := by
  refine F.ok scSa (fun vs H Q E h => ?_) (fun cdv A outer s H vs Q E hr h => ?_)
  · obtain ⟨p, q, n, d, rfl, _⟩ := h
    rfl
  · obtain ⟨p, q, n, d, rfl, ⟨dx, hp⟩, hq, k⟩ := h
    refine ⟨_, pss_cons (ps_if (pt_not (pt_val (pe_callB (C8.call_isC c) (by rfl) T.isi (by decide +kernel) (pa_cons (pv 0) (pa_cons (pe_glob (v := .ref C) (by rfl) R.mgC rfl) pa_nil))))) (pss_one ps_never) pss_nil)
      (pss_cons (ps_if (PW.pt (pw_or (pt_not (pt_val (pe_call GI hr rfl mI kI bI .nil pass0 (pa_cons (pe_fld (pv 0) rfl) pa_nil)))) (pw_or1 (pt_not (pt_val (pe_call GI hr rfl mI kI bI .nil pass0 (pa_cons (pe_fld (pv 0) rfl) pa_nil)))))))
        (pss_one ps_never) pss_nil)
      (pss_one (ps_ret (pe_and (pe_cmpR op_eq (pe_fld (pv 0) rfl) (pe_ix ix_tup (pv 1) pe_int (fun _ _ => rfl)) (nomark _)) (pe_one (pe_cmpR op_eq (pe_fld (pv 0) rfl) (pe_ix ix_tup (pv 1) pe_int (fun _ _ => rfl)) (nomark _))))))), ?_⟩
    refine ⟨_, rfl, p, dx, _, rfl, hp, true, rfl, ?_⟩
    refine iteF ?_
    refine ⟨_, rfl, p, C, dx, _, _, rfl, hp, R.cl, R.nT, rf_top _ _, n, rfl, true, rfl, ?_⟩
    refine iteF ?_
    refine ⟨_, rfl, p, C, dx, _, _, rfl, hp, R.cl, R.nB, rf_bot _ _, d, rfl, true, rfl, ?_⟩
    refine iteF ?_
    refine ⟨_, rfl, p, C, dx, _, _, rfl, hp, R.cl, R.nT, rf_top _ _, _, rfl, q, _, 0, _, rfl, rfl, hq.t, rfl, rfl, true, (by rw [decide_eq_true rfl]), ?_⟩
    refine iteT ?_
    refine ⟨_, rfl, p, C, dx, _, _, rfl, hp, R.cl, R.nB, rf_bot _ _, _, rfl, q, _, 1, _, rfl, rfl, hq.t, rfl, rfl, ?_⟩
    show Q (V.bl (decide (V.int d = V.int d))) H
    rw [decide_eq_true rfl]
    exact k
end
end RX

set_option Elab.async false
set_option maxRecDepth 100000
namespace RX
open PySem L2
theorem map_range_ext {α : Type} {i : Nat} {f g : Nat → α} (h : ∀ j, j < i → f j = g j) : (List.range i).map f = (List.range i).map g :=
  List.map_congr_left fun j hj => h j (List.mem_range.mp hj)
/-- one more at the end -/
def ext {α : Type} (f : Nat → α) (i : Nat) (x : α) : Nat → α := fun j => if j = i then x else f j
theorem ext_same {α : Type} (f : Nat → α) (i : Nat) (x : α) : ext f i x i = x := if_pos rfl
theorem ext_lt {α : Type} (f : Nat → α) {i j : Nat} (x : α) (h : j < i) : ext f i x j = f j := if_neg (by omega)
theorem map_ext {α : Type} (f : Nat → α) (i : Nat) (x : α) : (List.range (i + 1)).map (ext f i x) = (List.range i).map f ++ [x] := by
  rw [List.range_succ, List.map_append]
  rw [map_range_ext (f := ext f i x) (g := f) fun j h => ext_lt f x h]
  show _ ++ [ext f i x i] = _
  rw [ext_same]
theorem FeedAt.lst {H : Hp} {a cl : Addr} (h : FeedAt H a cl) : ∃ xs, H a = some (.lst xs) := let ⟨_, _, _, _, f⟩ := h; ⟨_, f.hA⟩
theorem FeedAt.lst2 {H : Hp} {a cl : Addr} (h : FeedAt H a cl) : ∃ xs, H cl = some (.lst xs) := let ⟨_, _, _, _, f⟩ := h; ⟨_, f.hC⟩
theorem FeedAt.other {H : Hp} {a cl r : Addr} {o : HO} (h : FeedAt H a cl) (h1 : r ≠ a) (h2 : r ≠ cl) : FeedAt (upd H r o) a cl :=
  let ⟨cs, i, p, s, f⟩ := h
  ⟨cs, i, p, s, by rw [upd_ne h1.symm]; exact f.hA, by rw [upd_ne h2.symm]; exact f.hC, f.ne, f.i0, f.p0, f.s0, f.s1, f.len, f.nn⟩
theorem PairAt.ne {H : Hp} {q R : Addr} {n d : Int} {xs : List V} (h : PairAt H q n d) (h2 : H R = some (.lst xs)) : q ≠ R := ne_of h h2 (by intro z; cases z)
theorem PairAt.other {H : Hp} {q R : Addr} {n d : Int} {o : HO} (h : PairAt H q n d) (ne : q ≠ R) : PairAt (upd H R o) q n d := by
  show upd H R o q = _
  rw [upd_ne ne]
  exact h
theorem PairAt.but {H H' : Hp} {a q : Addr} {n d : Int} (h : PairAt H q n d) (x : But a H H') (ne : q ≠ a) : PairAt H' q n d := x _ _ h ne
theorem RatAt.other {C : Addr} {H : Hp} {q R : Addr} {n d : Int} {o : HO} (h : RatAt C H q n d) (ne : q ≠ R) : RatAt C (upd H R o) q n d := by
  obtain ⟨dx, h⟩ := h
  exact ⟨dx, by rw [upd_ne ne]; exact h⟩
theorem ex1 (x : Int) : V.bl (decide (V.int x = V.int x)) = V.bl true := by rw [decide_eq_true rfl]
end RX

set_option Elab.async false
set_option maxRecDepth 100000
namespace RX
open PySem L2
/-! ### rows, tables, what comprehensions build -/
/-- k of them, one after another -/
def refs (k : Nat) (a : Nat → Addr) : List V := (List.range k).map fun i => V.ref (a i)
theorem refs_len (k : Nat) (a : Nat → Addr) : (refs k a).length = k := by unfold refs; rw [List.length_map, List.length_range]
theorem refs_get {k : Nat} {a : Nat → Addr} {i : Nat} (h : i < k) : (refs k a)[i]? = some (.ref (a i)) := by
  unfold refs
  rw [List.getElem?_map, List.getElem?_range h]
  rfl
theorem refs_lt {k : Nat} {a : Nat → Addr} {i : Nat} {x : V} (h : (refs k a)[i]? = some x) : i < k ∧ x = .ref (a i) := by
  have hi : i < k := by
    have := (List.getElem?_eq_some_iff.mp h).1
    rw [refs_len] at this
    exact this
  rw [refs_get hi] at h
  exact ⟨hi, (Option.some.inj h).symm⟩
/-- a tuple of Ratios -/
structure RowAt (C : Addr) (H : Hp) (p : Addr) (k : Nat) (a : Nat → Addr) (n d : Nat → Int) : Prop where
  hp : H p = some (.tup (refs k a))
  r : ∀ i, i < k → RatAt C H (a i) (n i) (d i)
theorem RowAt.same {C : Addr} {H H' : Hp} {p : Addr} {k : Nat} {a : Nat → Addr} {n d : Nat → Int} (h : RowAt C H p k a n d) (s : Same H H') : RowAt C H' p k a n d := ⟨s _ _ h.hp, fun i hi => (h.r i hi).same s⟩
theorem refs_ext (S : Nat → Addr) (i : Nat) (x : Addr) : refs (i + 1) (ext S i x) = refs i S ++ [.ref x] := by
  unfold refs
  rw [List.range_succ, List.map_append]
  rw [map_range_ext (f := fun j => V.ref (ext S i x j)) (g := fun j => V.ref (S j)) fun j h => by rw [ext_lt S x h]]
  show _ ++ [V.ref (ext S i x i)] = _
  rw [ext_same]
/-- a property of an address that stays -/
structure Stays (Pr : Hp → Nat → Addr → Prop) : Prop where
  s : ∀ {H H' : Hp} {j : Nat} {x : Addr}, Same H H' → Pr H j x → Pr H' j x
  u : ∀ {H : Hp} {j : Nat} {x D : Addr} {xs ys : List V}, H D = some (.lst xs) → Pr H j x → Pr (upd H D (.lst ys)) j x
structure Built (Pr : Hp → Nat → Addr → Prop) (H : Hp) (D : Addr) (i : Nat) (S : Nat → Addr) (H2 : Hp) : Prop where
  hD : H2 D = some (.lst (refs i S))
  pr : ∀ j, j < i → Pr H2 j (S j)
  s : Same H H2
theorem built0 {Pr : Hp → Nat → Addr → Prop} {H : Hp} {D : Addr} (nD : H D = none) : Built Pr H D 0 (fun _ => D) (upd H D (.lst [])) :=
  ⟨upd_same, fun _ h => absurd h (by omega), Same.upd nD⟩
theorem Built.step {Pr : Hp → Nat → Addr → Prop} {H H2 H3 : Hp} {D x : Addr} {i : Nat} {S : Nat → Addr} (B : Built Pr H D i S H2) (st : Stays Pr) (nD : H D = none) (s : Same H2 H3) (p : Pr H3 i x) :
    Built Pr H D (i + 1) (ext S i x) (upd H3 D (.lst (refs i S ++ [.ref x]))) := by
  have h3 := s _ _ B.hD
  refine ⟨by rw [upd_same, refs_ext], fun j hj => ?_, fun b o e => by rw [upd_ne (ne_of_none e nD)]; exact s _ _ (B.s _ _ e)⟩
  refine st.u h3 ?_
  by_cases e : j = i
  · subst e; rw [ext_same]; exact p
  · rw [ext_lt S x (by omega)]
    exact st.s s (B.pr j (by omega))
theorem RatAt.ne {C : Addr} {H : Hp} {p D : Addr} {n d : Int} {xs : List V} (h : RatAt C H p n d) (h2 : H D = some (.lst xs)) : p ≠ D := by
  obtain ⟨dx, h⟩ := h
  exact ne_of h h2 (by intro z; cases z)
theorem RowAt.updL {C : Addr} {H : Hp} {p D : Addr} {k : Nat} {a : Nat → Addr} {n d : Nat → Int} {xs ys : List V} (h : RowAt C H p k a n d) (h2 : H D = some (.lst xs)) : RowAt C (upd H D (.lst ys)) p k a n d :=
  ⟨by rw [upd_ne (ne_of h.hp h2 (by intro z; cases z))]; exact h.hp, fun i hi => (h.r i hi).other ((h.r i hi).ne h2)⟩
theorem stays_rat {C : Addr} {n d : Nat → Int} : Stays (fun H j x => RatAt C H x (n j) (d j)) := ⟨fun s h => h.same s, fun h2 h => h.other (h.ne h2)⟩
theorem stays_row {C : Addr} {k : Nat} {n d : Nat → Nat → Int} : Stays (fun H i x => ∃ a, RowAt C H x k a (n i) (d i)) := ⟨fun s ⟨a, h⟩ => ⟨a, h.same s⟩, fun h2 ⟨a, h⟩ => ⟨a, h.updL h2⟩⟩
/-- a table of Ratios -/
structure TabAt (C : Addr) (H : Hp) (p : Addr) (h w : Nat) (R : Nat → Addr) (A : Nat → Nat → Addr) (N D : Nat → Nat → Int) : Prop where
  hp : H p = some (.tup (refs h R))
  r : ∀ i, i < h → RowAt C H (R i) w (A i) (N i) (D i)
theorem TabAt.same {C : Addr} {H H' : Hp} {p : Addr} {h w : Nat} {R : Nat → Addr} {A : Nat → Nat → Addr} {N D : Nat → Nat → Int} (x : TabAt C H p h w R A N D) (s : Same H H') : TabAt C H' p h w R A N D := ⟨s _ _ x.hp, fun i hi => (x.r i hi).same s⟩
/-- a list of pairs -/
structure LineAt (H : Hp) (q : Addr) (k : Nat) (a : Nat → Addr) (n d : Nat → Int) : Prop where
  hq : H q = some (.lst (refs k a))
  p : ∀ i, i < k → PairAt H (a i) (n i) (d i)
theorem LineAt.same {H H' : Hp} {q : Addr} {k : Nat} {a : Nat → Addr} {n d : Nat → Int} (h : LineAt H q k a n d) (s : Same H H') : LineAt H' q k a n d := ⟨s _ _ h.hq, fun i hi => (h.p i hi).same s⟩
/-- a list of lists of pairs -/
structure LinesAt (H : Hp) (q : Addr) (h w : Nat) (R : Nat → Addr) (A : Nat → Nat → Addr) (N D : Nat → Nat → Int) : Prop where
  hq : H q = some (.lst (refs h R))
  r : ∀ i, i < h → LineAt H (R i) w (A i) (N i) (D i)
theorem LinesAt.same {H H' : Hp} {q : Addr} {h w : Nat} {R : Nat → Addr} {A : Nat → Nat → Addr} {N D : Nat → Nat → Int} (x : LinesAt H q h w R A N D) (s : Same H H') : LinesAt H' q h w R A N D := ⟨s _ _ x.hq, fun i hi => (x.r i hi).same s⟩
theorem Built.tab {C : Addr} {H H4 : Hp} {D : Addr} {h k : Nat} {S : Nat → Addr} {n d : Nat → Nat → Int} (B : Built (fun H i x => ∃ a, RowAt C H x k a (n i) (d i)) H D h S H4) {r : Addr} (nr : H4 r = none) :
    ∃ A, TabAt C (upd H4 r (.tup (refs h S))) r h k S A n d := by
  have s5 : Same H4 (upd H4 r (.tup (refs h S))) := Same.upd nr
  have ch : ∀ i, ∃ a, i < h → RowAt C H4 (S i) k a (n i) (d i) := fun i => by
    by_cases hi : i < h
    · obtain ⟨a, ha⟩ := B.pr i hi
      exact ⟨a, fun _ => ha⟩
    · exact ⟨fun _ => 0, fun h => absurd h hi⟩
  obtain ⟨B2, hB2⟩ := Classical.axiomOfChoice ch
  exact ⟨B2, upd_same, fun i hi => (hB2 i hi).same s5⟩
theorem LineAt.ne {H : Hp} {q F : Addr} {k : Nat} {a : Nat → Addr} {n d : Nat → Int} {xs : List V} (h : LineAt H q k a n d) (hF : H F = some (.lst xs)) : ∀ i, i < k → a i ≠ F := fun i hi => (h.p i hi).ne hF
theorem LineAt.other {H : Hp} {q F : Addr} {k : Nat} {a : Nat → Addr} {n d : Nat → Int} {xs : List V} {o : HO} (h : LineAt H q k a n d) (hF : H F = some (.lst xs)) (ne : q ≠ F) : LineAt (upd H F o) q k a n d :=
  ⟨by rw [upd_ne ne]; exact h.hq, fun i hi => (h.p i hi).other (h.ne hF i hi)⟩
theorem LineAt.but {H H' : Hp} {q F : Addr} {k : Nat} {a : Nat → Addr} {n d : Nat → Int} {xs : List V} (h : LineAt H q k a n d) (b : But F H H') (hF : H F = some (.lst xs)) (ne : q ≠ F) : LineAt H' q k a n d :=
  ⟨b _ _ h.hq ne, fun i hi => (h.p i hi).but b (h.ne hF i hi)⟩
theorem LinesAt.but {H H' : Hp} {q F : Addr} {h w : Nat} {R : Nat → Addr} {A : Nat → Nat → Addr} {N D : Nat → Nat → Int} {xs : List V} (x : LinesAt H q h w R A N D) (b : But F H H') (hF : H F = some (.lst xs)) (ne : q ≠ F) (nr : ∀ i, i < h → R i ≠ F) : LinesAt H' q h w R A N D :=
  ⟨b _ _ x.hq ne, fun i hi => (x.r i hi).but b hF (nr i hi)⟩
theorem refs_last (k : Nat) (a : Nat → Addr) : atI (refs (k + 1) a) (-1) = some (.ref (a k)) := by
  have : refs (k + 1) a = refs k a ++ [.ref (a k)] := by
    unfold refs
    rw [List.range_succ, List.map_append]
    rfl
  rw [this]
  exact atI_last _ _
def rTupO (K : PySem.W.Frag) : List V → Hp → VK → Prop := fun xs H Q => ∃ p ys, xs = [.ref p] ∧ ((SqL K H p ys ∧ ∀ l : Addr, H l = none → Q (.ref l) (upd H l (.tup ys))) ∨ SqT K H p ys ∧ Q (.ref p) H)
theorem call_tupK {X : Cx} : CallR X (.type "tuple") (rTupO X.K) := call_tuple_of
structure TxtP (mg : Str → Option Value) : Prop where
  zip : mg "zip" = none
  lcm : mg "lcm" = some (.builtin "math.lcm")
  tup : mg "tuple" = none
  list : mg "list" = none
  range : mg "range" = none
end RX

set_option Elab.async false
set_option maxRecDepth 100000
/-! // by a divisor of any size: the room that it wants, from the head on -/
namespace PL
open PySem PySem.Spec PyProof.Rows L2
/-- what // of great numbers asks of program and base -/
structure Big (P : Program) (base : Heap) : Prop where
  ns : base.NoSeer
  tr : P.given.tree = none
/-- the frame on top is a plain one -/
def Plain (X : Cx) : Prop := ∃ e l, X.stack = e :: l ∧ e.scope.isGenerator = false ∧ e.scope.isCoroutine = false ∧ e.builtins = builtinsNs ∧ e.globals = mainGlobals
theorem room {X : Cx} {pins : List (Addr × Obj)} {σ : L2.St} {H : Hp} {s : Shared} (B : Big X.prog X.base) (hr : Room 32 X.A) (hp : Plain X) (I : Inv X pins σ H s) : PylongRoom (model X.prog X.w) X.A s := by
  obtain ⟨e, l, h1, h2, h3, h4, h5⟩ := hp
  have fr := I.ok.frames
  rw [h1] at fr
  have sr : SeerAt (model X.prog X.w) X.A s.heap := SeerAt.of (B.ns.keeps I.bk) B.tr fr h2 h3 h4 h5
  refine PylongRoom.of I.nolimit ?_ sr
  have := hr.dp
  show X.A.depth + 100 < recursionLimit
  omega
theorem op_fdivP {X : Cx} (B : Big X.prog X.base) (hr : Room 32 X.A) (hp : Plain X) : OpR X (binaryOp .FloorDiv) (rI (fun _ j => j ≠ 0) fun i j => .int (i.fdiv j)) := by
  intro pins s σ H x y v u Q I rx ry ⟨i, j, ex, ey, hj, q⟩
  subst ex ey
  obtain ⟨t, rfl⟩ := rx
  obtain ⟨t', rfl⟩ := ry
  exact floordiv_int hj ⟨.int (i.fdiv j), H, I.tok _, ⟨_, rfl⟩, q⟩ (.inr (room B hr hp I))
/-- the law's call, with the room for great divisions told of the base -/
theorem big_call {P : Program} {w : World} {K : PySem.W.Frag} {mg mb : Str → Option Value} {CX : CXT} {k : Nat} {fa a : Addr} {fd : FuncData} {x : Str} {sp : Sp} {s : Shared} {us : List Value} {ns : List Int} (hS : s.heap.NoSeer)
    (hK : K.In s.heap) (h1 : s.heap.Ns mainGlobals mg) (h2 : s.heap.Ns builtinsNs mb) (h3 : ∀ x : Str, x ≠ "__name__" → mb x = bootBuiltins x) (h4 : s.heap.NoLimit) (h5 : s.gens = #[])
    (h6 : s.heap.get? a = some { cls := .type "list", data := .seq us.toArray }) (h7 : IntsAre us ns) (h8 : ns.length ≤ sizeLine) (h9 : Room k callerA)
    (F : ∀ base : Heap, K.In base → base.Ns mainGlobals mg → base.NoSeer → FnOk P w K mg base CX k fa fd [x] sp) (hb : ∀ (s : Shared) (u : Value), BindsTo s fd ⟨[u], []⟩ [(x, u)])
    (hsp : ∀ H : Hp, Only H → SqL K H a (ns.map V.int) → sp [.ref a] H (fun v _ => v = .bl true) fun _ _ _ => False)
    (hc : ∀ H e s', CX [] H s (fun _ _ _ => False) e s' → False) :
    codeAny (model P w) callerA (.call (.ref fa) ⟨[.ref a], []⟩) (fun r s' => r = .ok (.ret (.bool true)) ∧ OldK s.heap s'.heap ∧ s'.os = s.os ∧ AllBare s'.gens) s := by
  have rel := vals_ints h7
  -- what is tracked: the script, where the written part has it not
  let fz : HO := .frz { cls := .type "list", data := .seq us.toArray } (.lst (ns.map V.int))
  let H : Hp := fun b => if b = a then (if (K.lookup a).isSome then none else some fz) else none
  have Hn : ∀ {b : Addr}, b ≠ a → H b = none := fun n => if_neg n
  have Hs : ∀ {b : Addr} {u : HO}, H b = some u → b = a ∧ u = fz ∧ K.lookup a = none := fun {b u} z => by
    by_cases e : b = a
    · subst e
      have z : (if b = b then (if (K.lookup b).isSome then none else some fz) else none) = some u := z
      rw [if_pos rfl] at z
      cases q : K.lookup b with
      | none =>
        rw [q] at z
        exact ⟨rfl, (Option.some.inj z).symm, rfl⟩
      | some o => rw [q] at z; cases z
    · rw [Hn e] at z; cases z
  have only : Only H := fun b => by
    cases q : H b with
    | none => exact .inl rfl
    | some u => exact .inr ⟨_, _, congrArg some (Hs q).2.1⟩
  have old : ∀ {b : Addr} {o : Obj}, s.heap.get? b = some o → b ≠ a → (hidT s.heap H).get? b = some o := fun e n => hidT_get e (Hn n)
  have notA : ∀ {b : Addr} {o : Obj}, s.heap.get? b = some o → (∀ vs n, o.data ≠ .seq vs n) → b ≠ a := fun {b o} e d z => by
    rw [z, h6] at e
    exact d _ _ (congrArg Obj.data (Option.some.inj e)).symm
  have dictA : ∀ {b : Addr} {m : Str → Option Value}, s.heap.Ns b m → (hidT s.heap H).Ns b m := fun {b m} z => by
    obtain ⟨o, es, ep, e, d, r⟩ := z
    exact ⟨o, es, ep, old e (notA e fun vs n y => by rw [d] at y; cases y), d, r⟩
  have kin : K.In (hidT s.heap H) := fun b o e => by
    have e1 := hK b o e
    cases q : H b with
    | none => exact hidT_get e1 q
    | some u =>
      obtain ⟨rfl, _, y⟩ := Hs q
      rw [y] at e; cases e
  have lim : (hidT s.heap H).NoLimit := by
    obtain ⟨mc, l1, l2⟩ := h4
    exact ⟨mc, dictA l1, l2⟩
  have seer : (hidT s.heap H).NoSeer := by
    obtain ⟨⟨m1, a1, b1⟩, ⟨m2, a2, b2⟩, ⟨m3, a3, b3⟩, ⟨m4, bm, ob, a4, b4, c4, d4, e4⟩⟩ := hS
    refine ⟨⟨m1, dictA a1, b1⟩, ⟨m2, dictA a2, b2⟩, ⟨m3, dictA a3, b3⟩, ⟨m4, bm, ob, dictA a4, b4, old c4 (fun z => ?_), d4, e4⟩⟩
    rw [z, h6] at c4
    rw [← Option.some.inj c4] at d4
    have d5 : Value.type "list" = Value.type "module" := d4
    injection d5 with d5
    exact absurd d5 (by decide)
  have md : Mod K mg (hidT s.heap H) := ⟨kin, dictA h1, ⟨mb, dictA h2, h3⟩, lim⟩
  have hok : HOk P w H s.heap := fun b u z => by
    obtain ⟨rfl, rfl, _⟩ := Hs z
    exact ⟨h6, by rw [List.length_map]; exact h8, us, _, rel, h6⟩
  have sq : SqL K H a (ns.map V.int) := by
    cases q : K.lookup a with
    | none =>
      refine .inl (.inr ⟨{ cls := .type "list", data := .seq us.toArray }, ?_⟩)
      show (if a = a then (if (K.lookup a).isSome then none else some fz) else none) = _
      rw [if_pos rfl, q]
      rfl
    | some o =>
      have e1 := (hK a o q).symm.trans h6
      obtain rfl := Option.some.inj e1
      exact .inr ⟨_, us.toArray, _, q, rfl, rfl, rfl, by rw [List.size_toArray, h7.length]; exact h8, by simpa using rel⟩
  have env : Env0 P w K mg (hidT s.heap H) callerA [] s H := ⟨rfl, md, fun b o e => of_hidT e, Nat.le_of_eq (hidT_size _ _), trivial, (fun b z => nomatch z), hok, .of_eq h5⟩
  refine codeAny_mono ((F _ kin (dictA h1) seer).run callerA [] s H ⟨[.ref a], []⟩ [.ref a] [.ref a] _ _ h9 env (hb s (.ref a)) (.cons rfl .nil) (hsp H only sq)) fun r s' z => ?_
  match r, z with
  | .error e, z => exact (hc H e s' z).elim
  | .ok .next, z => exact z.elim
  | .ok .brk, z => exact z.elim
  | .ok .cont, z => exact z.elim
  | .ok (.ret u), z =>
    obtain ⟨v, H', os, bare, un, hok', ru, ev⟩ := z
    have ev : v = .bl true := ev
    subst ev
    have ru : u = Value.bool true := ru
    subst ru
    refine ⟨rfl, OldK.of_keep fun b o e => ?_, os, bare⟩
    cases q : H b with
    | none => exact un.keep b o e q (fun y => by cases y) (fun y => by cases y)
    | some u2 =>
      obtain ⟨rfl, rfl, _⟩ := Hs q
      have y1 := (hok b _ q).1
      have y2 := (hok' b _ (un.frzs b _ _ q)).1
      exact y2.trans (y1.symm.trans e)
theorem big_walk {l : PySem.W.OpenLaw} {n k : Nat} {q : Program} {loose : List Str} {XP : (Str → Option Value) → Heap → Prop} {YP : World → Heap → Prop} {d : DefRec} {K : Params → PySem.W.Frag} {CX : World → CXT} {sp : World → Sp} {x : Str}
    (hi : importsNone q = true) (h1 : l.most = some n) (h2 : n ≤ sizeLine) (h3 : d.params.defaults = []) (hr : Room k callerA)
    (hY : ∀ (w : World) (h : Heap), YP w h → (K w.params).In h)
    (F : ∀ (w : World) (mg : Str → Option Value) (fa : Addr) (h : Heap), (K w.params).In h → h.Ns mainGlobals mg → mg d.name = some (.ref fa) →
      ∃ fd : FuncData, (∀ (s : Shared) (u : Value), BindsTo s fd ⟨[u], []⟩ [(x, u)]) ∧
        ∀ base : Heap, (K w.params).In base → base.Ns mainGlobals mg → base.NoSeer → FnOk l.prog w (K w.params) mg base (CX w) k fa fd [x] (sp w))
    (hsp : ∀ (w : World) (H : Hp) (a : Addr) (ns : List Int), ns.length ≤ n → Only H → SqL (K w.params) H a (ns.map V.int) → sp w [.ref a] H (fun v _ => v = .bl true) fun _ _ _ => False)
    (hC : ∀ (w : World) (H : Hp) (s : Shared) (e : Value) (s' : Shared), CX w [] H s (fun _ _ _ => False) e s' → False) :
    PySem.W.WalkO q loose XP YP l.row.toRowW d [] (fun f vs => PySem.call f vs) := by
  refine Att.attach_call h1 h3 fun w s0 s mg mb fa o pm cd doc a us ns G Y _ _ _ gf ga gi gl gg => ?_
  obtain ⟨fd, hb, hF⟩ := F w mg fa _ (hY w _ Y) G.T.g gf
  exact big_call (G.T.seer hi) (hY w _ Y) G.T.g G.T.b G.T.builtins G.T.nolimit gg ga gi (Nat.le_trans gl h2) hr hF hb (fun H o z => hsp w H a ns gl o z) fun H e s' => hC w H s e s'
end PL

set_option Elab.async false
set_option maxRecDepth 100000
/-! Ratios as numbers, of any size that the model holds -/
namespace RQ
open PySem L2
def Bt (b : Nat) (x : Int) : Prop := x.natAbs < 2 ^ b
theorem Bt.up {a b : Nat} {x : Int} (h : Bt a x) (l : a ≤ b) : Bt b x := Nat.lt_of_lt_of_le h (Nat.pow_le_pow_right (by decide) l)
theorem Bt.mul {a b : Nat} {x y : Int} (h : Bt a x) (k : Bt b y) : Bt (a + b) (x * y) := by
  unfold Bt
  rw [Int.natAbs_mul, Nat.pow_add]
  exact Nat.mul_lt_mul'' h k
theorem Bt.add {a : Nat} {x y : Int} (h : Bt a x) (k : Bt a y) : Bt (a + 1) (x + y) := by
  unfold Bt at *
  have := Int.natAbs_add_le x y
  rw [Nat.pow_succ]
  omega
theorem Bt.sub {a : Nat} {x y : Int} (h : Bt a x) (k : Bt a y) : Bt (a + 1) (x - y) := by
  unfold Bt at *
  have := Int.natAbs_sub_le x y
  rw [Nat.pow_succ]
  omega
theorem Bt.neg {a : Nat} {x : Int} (h : Bt a x) : Bt a (-x) := by
  unfold Bt at *
  rw [Int.natAbs_neg]
  exact h
theorem Bt.le {a : Nat} {x y : Int} (h : Bt a x) (l : y.natAbs ≤ x.natAbs) : Bt a y := Nat.lt_of_le_of_lt l h
theorem Bt.log {a : Nat} {x : Int} (h : Bt a x) : x.natAbs.log2 ≤ a := by
  by_cases z : x.natAbs = 0
  · rw [z]; exact Nat.zero_le _
  · exact Nat.le_of_lt ((Nat.log2_lt z).mpr h)
/-- of at most sixty million bits -/
def Hg (x : Int) : Prop := ∃ b, b ≤ 60000000 ∧ Bt b x
theorem Bt.hg {a : Nat} {x : Int} (h : Bt a x) (l : a ≤ 60000000) : Hg x := ⟨a, l, h⟩
def CMulH (i j : Int) : Prop := Hg i ∧ Hg j
theorem CMulH.ok {i j : Int} (h : CMulH i j) : IntMulOk i j := by
  obtain ⟨⟨a, la, ha⟩, ⟨b, lb, hb⟩⟩ := h
  have ia : ∀ z : Int, Builtin.Int.intBits z ≤ z.natAbs.log2 + 1 := fun z => by unfold Builtin.Int.intBits; split <;> omega
  have e1 := ia i
  have e2 := ia j
  have e3 := ha.log
  have e4 := hb.log
  have line : bitsLine = 134217728 := by decide
  unfold IntMulOk
  intro y
  have y := (Bool.and_eq_true_iff.mp y).2
  unfold Builtin.Int.intTooBig at y
  have y := of_decide_eq_true y
  rw [line] at y
  omega
theorem op_mulH {X : Cx} : OpR X (binaryOp .Mult) (rI CMulH fun i j => .int (i * j)) := opI fun _ _ _ _ _ _ _ hc q => PyProof.Rows.mul_int q hc.ok
/-! ### numbers -/
theorem den0 (q : Rat) : ((q.den : Int) : Rat) ≠ 0 := fun z => q.den_nz (by
  have : ((q.den : Int) : Rat) = ((0 : Int) : Rat) := z
  have := Rat.intCast_inj.mp this
  omega)
theorem nd (q : Rat) : (q.num : Rat) = q * ((q.den : Int) : Rat) := by
  have e : (q.num : Rat) / ((q.den : Int) : Rat) = q := by rw [← Rat.divInt_eq_div, Rat.num_divInt_den]
  have d := den0 q
  grind
theorem i0 {b : Int} (h : b ≠ 0) : (b : Rat) ≠ 0 := fun z => h (Rat.intCast_inj.mp (by rw [z]; rfl))
/-- lowest terms of t / b -/
theorem low {t b : Int} (h : b ≠ 0) {q : Rat} (e : (t : Rat) = q * (b : Rat)) : RT.top t b = q.num ∧ RT.bot t b = (q.den : Int) := by
  have d0 : 0 < (q.den : Int) := by have := q.den_pos; omega
  refine RT.uniq (RT.bot_pos h) d0 (RT.cop h) (by rw [Int.natAbs_natCast]; exact q.reduced) ?_
  have c := RT.cross (t := t) h
  have c' : ((RT.top t b : Int) : Rat) * (b : Rat) = (t : Rat) * ((RT.bot t b : Int) : Rat) := by rw [← Rat.intCast_mul, c, Rat.intCast_mul]
  have n1 := nd q
  have b0 := i0 h
  refine Rat.intCast_inj.mp ?_
  rw [Rat.intCast_mul, Rat.intCast_mul]
  grind
theorem num0 {q : Rat} : q.num = 0 ↔ q = 0 := Rat.num_eq_zero
/-- z over m is the number -/
theorem den_dvd {q : Rat} {z m : Int} (h : m ≠ 0) (e : (z : Rat) = q * (m : Rat)) : (q.den : Int) ∣ m ∧ q.num ∣ z := by
  obtain ⟨e1, e2⟩ := low h e
  rw [← e1, ← e2]
  exact ⟨⟨RT.byv z m, (RT.bot_mul h).symm⟩, ⟨RT.byv z m, (RT.top_mul h).symm⟩⟩
end RQ

set_option exponentiation.threshold 100000
namespace RT
/-- the sum of the products of n / d with m / e, each step in lowest terms -/
def due (n d m e : Nat → Int) : Nat → Int × Int
  | 0 => (0, 1)
  | k + 1 => if n k ≠ 0 ∧ m k ≠ 0 then
      (top ((due n d m e k).1 * bot (n k * m k) (d k * e k) + top (n k * m k) (d k * e k) * (due n d m e k).2) ((due n d m e k).2 * bot (n k * m k) (d k * e k)),
       bot ((due n d m e k).1 * bot (n k * m k) (d k * e k) + top (n k * m k) (d k * e k) * (due n d m e k).2) ((due n d m e k).2 * bot (n k * m k) (d k * e k)))
    else due n d m e k
theorem due_yes {n d m e : Nat → Int} {k : Nat} (h1 : n k ≠ 0) (h2 : m k ≠ 0) : due n d m e (k + 1) =
    (top ((due n d m e k).1 * bot (n k * m k) (d k * e k) + top (n k * m k) (d k * e k) * (due n d m e k).2) ((due n d m e k).2 * bot (n k * m k) (d k * e k)),
       bot ((due n d m e k).1 * bot (n k * m k) (d k * e k) + top (n k * m k) (d k * e k) * (due n d m e k).2) ((due n d m e k).2 * bot (n k * m k) (d k * e k))) := if_pos ⟨h1, h2⟩
theorem due_no {n d m e : Nat → Int} {k : Nat} (h : ¬ (n k ≠ 0 ∧ m k ≠ 0)) : due n d m e (k + 1) = due n d m e k := if_neg h
abbrev BB : Nat := 2 ^ 134
/-- of at most 67 bits, the bottom above 0 -/
structure Fr (x y : Int) : Prop where
  n : x.natAbs < 2 ^ 67
  d : y.natAbs < 2 ^ 67
  p : 0 < y
structure DueOk (k : Nat) (p : Int × Int) : Prop where
  pos : 0 < p.2
  co : Nat.Coprime p.1.natAbs p.2.natAbs
  bot : p.2.natAbs ≤ BB ^ k
  top : p.1.natAbs ≤ k * BB * p.2.natAbs
theorem prod_lt {x y : Int} (h : x.natAbs < 2 ^ 67) (h' : y.natAbs < 2 ^ 67) : (x * y).natAbs ≤ BB := by
  rw [Int.natAbs_mul]
  have := Nat.mul_lt_mul'' h h'
  rw [← Nat.pow_add] at this
  exact Nat.le_of_lt this
theorem due_step {k : Nat} {p : Int × Int} (h : DueOk k p) {x y : Int} (hy : 0 < y) (x1 : x.natAbs ≤ BB) (y1 : y.natAbs ≤ BB) :
    DueOk (k + 1) (RT.top (p.1 * y + x * p.2) (p.2 * y), RT.bot (p.1 * y + x * p.2) (p.2 * y)) := by
  have hD : p.2 * y ≠ 0 := Int.mul_ne_zero (by have := h.pos; omega) (by omega)
  have hDp : 0 < (p.2 * y).natAbs := Int.natAbs_pos.mpr hD
  refine ⟨bot_pos hD, cop hD, ?_, ?_⟩
  · refine Nat.le_trans (bot_le hD) ?_
    rw [Int.natAbs_mul, Nat.pow_succ]
    exact Nat.mul_le_mul h.bot y1
  · have c := cross (t := p.1 * y + x * p.2) hD
    have c' : (RT.top (p.1 * y + x * p.2) (p.2 * y)).natAbs * (p.2 * y).natAbs = (p.1 * y + x * p.2).natAbs * (RT.bot (p.1 * y + x * p.2) (p.2 * y)).natAbs := by rw [← Int.natAbs_mul, c, Int.natAbs_mul]
    have t1 : (p.1 * y + x * p.2).natAbs ≤ (k + 1) * BB * (p.2 * y).natAbs := by
      refine Nat.le_trans (Int.natAbs_add_le _ _) ?_
      rw [Int.natAbs_mul, Int.natAbs_mul, Int.natAbs_mul]
      have a1 : p.1.natAbs * y.natAbs ≤ k * BB * p.2.natAbs * y.natAbs := Nat.mul_le_mul_right _ h.top
      have a2 : x.natAbs * p.2.natAbs ≤ BB * p.2.natAbs * y.natAbs := by
        have : 1 ≤ y.natAbs := by omega
        refine Nat.le_trans (Nat.mul_le_mul_right _ x1) ?_
        exact Nat.le_mul_of_pos_right _ this
      have : (k + 1) * BB * (p.2.natAbs * y.natAbs) = k * BB * p.2.natAbs * y.natAbs + BB * p.2.natAbs * y.natAbs := by
        rw [Nat.add_mul, Nat.add_mul, Nat.one_mul]
        congr 1 <;> ac_rfl
      rw [this]
      exact Nat.add_le_add a1 a2
    refine Nat.le_of_mul_le_mul_right ?_ hDp
    show (RT.top (p.1 * y + x * p.2) (p.2 * y)).natAbs * (p.2 * y).natAbs ≤ (k + 1) * BB * (RT.bot (p.1 * y + x * p.2) (p.2 * y)).natAbs * (p.2 * y).natAbs
    rw [c']
    have := Nat.mul_le_mul_right (RT.bot (p.1 * y + x * p.2) (p.2 * y)).natAbs t1
    refine Nat.le_trans this (Nat.le_of_eq ?_)
    ac_rfl
theorem DueOk.up {k : Nat} {p : Int × Int} (h : DueOk k p) : DueOk (k + 1) p :=
  ⟨h.pos, h.co, Nat.le_trans h.bot (Nat.pow_le_pow_right (by decide) (by omega)), Nat.le_trans h.top (Nat.mul_le_mul_right _ (Nat.mul_le_mul_right _ (by omega)))⟩
theorem due_ok {n d m e : Nat → Int} : ∀ {k : Nat}, (∀ j, j < k → Fr (n j) (d j) ∧ Fr (m j) (e j)) → DueOk k (due n d m e k)
  | 0, _ => ⟨show (0 : Int) < 1 by decide, Nat.coprime_one_right _, show 1 ≤ 1 by decide, Nat.zero_le _⟩
  | k + 1, h => by
    have i := due_ok (k := k) fun j hj => h j (by omega)
    obtain ⟨f1, f2⟩ := h k (by omega)
    by_cases z : n k ≠ 0 ∧ m k ≠ 0
    · rw [due_yes z.1 z.2]
      have hb : d k * e k ≠ 0 := Int.mul_ne_zero (by have := f1.p; omega) (by have := f2.p; omega)
      exact due_step i (bot_pos hb) (Nat.le_trans (top_le hb) (prod_lt f1.n f2.n)) (Nat.le_trans (bot_le hb) (prod_lt f1.d f2.d))
    · rw [due_no z]
      exact i.up
/-- the running sum over one bottom -/
structure SumAt (n d m e : Nat → Int) (k : Nat) (t b : Int) : Prop where
  pos : 0 < b
  bot : b.natAbs ≤ BB ^ k
  top : t.natAbs ≤ k * BB * b.natAbs
  eq : t * (due n d m e k).2 = (due n d m e k).1 * b
def lcmI (x y : Int) : Int := ((Nat.lcm x.natAbs y.natAbs : Nat) : Int)
theorem lcm_l (x y : Int) : x ∣ lcmI x y := by
  unfold lcmI
  exact Int.natAbs_dvd_natAbs.mp (by rw [Int.natAbs_natCast]; exact Nat.dvd_lcm_left _ _)
theorem lcm_r (x y : Int) : y ∣ lcmI x y := by
  unfold lcmI
  exact Int.natAbs_dvd_natAbs.mp (by rw [Int.natAbs_natCast]; exact Nat.dvd_lcm_right _ _)
theorem lcm_pos {x y : Int} (hx : 0 < x) (hy : 0 < y) : 0 < lcmI x y := by
  unfold lcmI
  have : 0 < Nat.lcm x.natAbs y.natAbs := Nat.lcm_pos (by omega) (by omega)
  omega
theorem lcm_le {x y : Int} (hx : 0 < x) (hy : 0 < y) : (lcmI x y).natAbs ≤ x.natAbs * y.natAbs := by
  unfold lcmI
  rw [Int.natAbs_natCast]
  exact Nat.le_of_dvd (Nat.mul_pos (by omega) (by omega)) (Nat.lcm_dvd_mul _ _)
theorem sum_zero {n d m e : Nat → Int} : SumAt n d m e 0 0 1 := ⟨by decide, by decide, by decide, by rfl⟩
theorem sum_no {n d m e : Nat → Int} {k : Nat} {t b : Int} (h : SumAt n d m e k t b) (z : n k * m k = 0) : SumAt n d m e (k + 1) t b := by
  refine ⟨h.pos, Nat.le_trans h.bot (Nat.pow_le_pow_right (by decide) (by omega)), Nat.le_trans h.top (Nat.mul_le_mul_right _ (Nat.mul_le_mul_right _ (by omega))), ?_⟩
  rw [due_no (fun ⟨x, y⟩ => Int.mul_ne_zero x y z)]
  exact h.eq
theorem sum_yes {n d m e : Nat → Int} {k : Nat} {t b : Int} (h : SumAt n d m e k t b) (f : ∀ j, j < k + 1 → Fr (n j) (d j) ∧ Fr (m j) (e j)) (z : n k * m k ≠ 0) :
    SumAt n d m e (k + 1) (t * (lcmI b (d k * e k)).fdiv b + n k * m k * (lcmI b (d k * e k)).fdiv (d k * e k)) (lcmI b (d k * e k)) := by
  obtain ⟨f1, f2⟩ := f k (by omega)
  have hb : 0 < d k * e k := Int.mul_pos f1.p f2.p
  have hL := lcm_pos h.pos hb
  have c1 := fdiv_of_dvd (by have := h.pos; omega) (lcm_l b (d k * e k))
  have c2 := fdiv_of_dvd (by omega) (lcm_r b (d k * e k))
  have hle := lcm_le h.pos hb
  generalize lcmI b (d k * e k) = L at *
  generalize L.fdiv b = q1 at *
  generalize L.fdiv (d k * e k) = q2 at *
  have dk := due_ok (n := n) (d := d) (m := m) (e := e) (k := k) fun j hj => f j (by omega)
  refine ⟨hL, ?_, ?_, ?_⟩
  · rw [Nat.pow_succ]
    exact Nat.le_trans hle (Nat.mul_le_mul h.bot (prod_lt f1.d f2.d))
  · refine Nat.le_trans (Int.natAbs_add_le _ _) ?_
    have e1 : q1.natAbs * b.natAbs = L.natAbs := by rw [← Int.natAbs_mul, c1]
    have e2 : q2.natAbs * (d k * e k).natAbs = L.natAbs := by rw [← Int.natAbs_mul, c2]
    have a1 : (t * q1).natAbs ≤ k * BB * L.natAbs := by
      rw [Int.natAbs_mul, ← e1]
      refine Nat.le_trans (Nat.mul_le_mul_right _ h.top) (Nat.le_of_eq ?_)
      ac_rfl
    have a2 : (n k * m k * q2).natAbs ≤ BB * L.natAbs := by
      rw [Int.natAbs_mul]
      refine Nat.mul_le_mul (prod_lt f1.n f2.n) ?_
      rw [← e2]
      exact Nat.le_mul_of_pos_right _ (by omega)
    have : (k + 1) * BB * L.natAbs = k * BB * L.natAbs + BB * L.natAbs := by
      rw [Nat.add_mul, Nat.add_mul, Nat.one_mul]
    rw [this]
    exact Nat.add_le_add a1 a2
  · have z1 : n k ≠ 0 := fun z' => z (by rw [z', Int.zero_mul])
    have z2 : m k ≠ 0 := fun z' => z (by rw [z', Int.mul_zero])
    rw [due_yes z1 z2]
    have hbn : d k * e k ≠ 0 := by omega
    have x1 := cross (t := n k * m k) hbn
    have y0 := bot_pos (t := n k * m k) hbn
    have he := h.eq
    have p0 := dk.pos
    generalize due n d m e k = p at *
    generalize RT.top (n k * m k) (d k * e k) = x at *
    generalize RT.bot (n k * m k) (d k * e k) = y at *
    have hD : p.2 * y ≠ 0 := Int.mul_ne_zero (by omega) (by omega)
    have c := cross (t := p.1 * y + x * p.2) hD
    have key : (t * q1 + n k * m k * q2) * (p.2 * y) = (p.1 * y + x * p.2) * L := by
      calc (t * q1 + n k * m k * q2) * (p.2 * y) = t * p.2 * (q1 * y) + n k * m k * y * (q2 * p.2) := by
            rw [Int.add_mul]; congr 1 <;> ac_rfl
        _ = p.1 * b * (q1 * y) + x * (d k * e k) * (q2 * p.2) := by rw [he, x1]
        _ = p.1 * y * (q1 * b) + x * p.2 * (q2 * (d k * e k)) := by congr 1 <;> ac_rfl
        _ = p.1 * y * L + x * p.2 * L := by rw [c1, c2]
        _ = _ := by rw [Int.add_mul]
    show (t * q1 + n k * m k * q2) * RT.bot (p.1 * y + x * p.2) (p.2 * y) = RT.top (p.1 * y + x * p.2) (p.2 * y) * L
    refine Int.eq_of_mul_eq_mul_right hD ?_
    calc (t * q1 + n k * m k * q2) * RT.bot (p.1 * y + x * p.2) (p.2 * y) * (p.2 * y) = ((t * q1 + n k * m k * q2) * (p.2 * y)) * RT.bot (p.1 * y + x * p.2) (p.2 * y) := by ac_rfl
      _ = ((p.1 * y + x * p.2) * RT.bot (p.1 * y + x * p.2) (p.2 * y)) * L := by rw [key]; ac_rfl
      _ = (RT.top (p.1 * y + x * p.2) (p.2 * y) * (p.2 * y)) * L := by rw [c]
      _ = RT.top (p.1 * y + x * p.2) (p.2 * y) * L * (p.2 * y) := by ac_rfl
theorem sum_end {n d m e : Nat → Int} {k : Nat} {t b : Int} (h : SumAt n d m e k t b) (f : ∀ j, j < k → Fr (n j) (d j) ∧ Fr (m j) (e j)) : RT.top t b = (due n d m e k).1 ∧ RT.bot t b = (due n d m e k).2 := by
  have dk := due_ok f
  have p0 := dk.pos
  have k1 := keeps dk.pos dk.co
  have s := same (t := t) (b := b) (t' := (due n d m e k).1) (b' := (due n d m e k).2) (by have := h.pos; omega) (by omega) h.eq
  exact ⟨s.1.trans k1.1, s.2.trans k1.2⟩
theorem BB_pow {k : Nat} (h : k ≤ 60) : BB ^ k ≤ 2 ^ 8040 := by
  have : BB ^ k ≤ BB ^ 60 := Nat.pow_le_pow_right (by decide) h
  exact Nat.le_trans this (by rw [← Nat.pow_mul]; exact Nat.le_refl _)
theorem BB_top {k x : Nat} (h : k ≤ 60) (hx : x ≤ 2 ^ 8040) : k * BB * x < 2 ^ 8200 := by
  have h1 : k * BB ≤ 2 ^ 6 * 2 ^ 134 := Nat.mul_le_mul_right _ (by omega)
  have h2 : k * BB * x ≤ 2 ^ 6 * 2 ^ 134 * 2 ^ 8040 := Nat.mul_le_mul h1 hx
  rw [← Nat.pow_add, ← Nat.pow_add] at h2
  exact Nat.lt_of_le_of_lt h2 (Nat.pow_lt_pow_right (by decide) (by decide))
end RT

set_option Elab.async false
set_option maxRecDepth 100000
set_option exponentiation.threshold 100000
namespace RX
open PySem L2
def rLcm : List V → Hp → VK → Prop := fun vs H Q => ∃ a b : Int, vs = [.int a, .int b] ∧ a.natAbs < 2 ^ 13000 ∧ b.natAbs < 2 ^ 13000 ∧ Q (.int (RT.lcmI a b)) H
theorem lcm_log {x : Nat} (h : x < 2 ^ 13000) : ¬ (max 1 x).log2 / 30 + 1 > 450 := by
  have : (max 1 x).log2 < 13000 := by
    refine (Nat.log2_lt (by omega)).mpr ?_
    have : 1 < 2 ^ 13000 := Nat.one_lt_two_pow (by decide)
    omega
  omega
theorem cr_lcm {X : Cx} : CallR X (.builtin "math.lcm") rLcm := by
  intro pins s σ H vs us Q I r h
  obtain ⟨a, b, rfl, ha, hb, q⟩ := h
  obtain ⟨t, u, rfl⟩ := Vals.int2 r
  have e1 : ((Nat.lcm 1 a.natAbs).lcm b.natAbs : Nat) = Nat.lcm a.natAbs b.natAbs := by rw [Nat.lcm_one_left]
  have hm : max a.natAbs b.natAbs < 2 ^ 13000 := by omega
  have g := PySem.W.mg_run_lcm a t b u (lcm_log ha) (by
      have := lcm_log hm
      have h2 : (max a.natAbs b.natAbs).log2 ≤ (max 1 (max a.natAbs b.natAbs)).log2 := by
        by_cases z : max a.natAbs b.natAbs = 0
        · rw [z]; exact Nat.zero_le _
        · rw [show max 1 (max a.natAbs b.natAbs) = max a.natAbs b.natAbs by omega]; exact Nat.le_refl _
      omega) (by
      rw [e1, Int.natAbs_natCast]
      have h3 : Nat.lcm a.natAbs b.natAbs < 2 ^ 26000 := by
        by_cases z : a.natAbs = 0
        · rw [z, Nat.lcm_zero_left]; exact Nat.two_pow_pos _
        by_cases z2 : b.natAbs = 0
        · rw [z2, Nat.lcm_zero_right]; exact Nat.two_pow_pos _
        refine Nat.lt_of_le_of_lt (Nat.le_of_dvd (Nat.mul_pos (by omega) (by omega)) (Nat.lcm_dvd_mul _ _)) ?_
        have := Nat.mul_lt_mul'' ha hb
        rw [← Nat.pow_add] at this
        exact this
      by_cases z : Nat.lcm a.natAbs b.natAbs = 0
      · rw [z]; decide
      · exact Nat.lt_of_lt_of_le ((Nat.log2_lt z).mpr h3) (by decide))
  rw [e1] at g
  exact PySem.call_function_meets PySem.W.MGF.kind_lcm PySem.W.MGF.plain_lcm PySem.W.MGF.entry_lcm (PySem.W.MGF.args_lcm _ _) g.meets ⟨.int _, H, I.tok _, ⟨_, rfl⟩, q⟩
end RX

set_option Elab.async false
set_option maxRecDepth 100000
namespace RX
open PySem L2
open RQ (Hg Bt)
/-! ### Ratios and pairs of any size -/
abbrev sSum : Stmt := topS 41
abbrev sBy : Stmt := topS 42
def spInitB (C : Addr) : Sp := fun vs H Q _ => ∃ (p dx : Addr) (t b : Int), vs = [.ref p, .int t, .int b] ∧ H p = some (.ins C dx []) ∧ b ≠ 0 ∧
  ∀ H' : Hp, RatAt C H' p (RT.top t b) (RT.bot t b) → (∀ c o, H c = some o → c ≠ p → H' c = some o) → Q .non H'
def spPairB : Sp := fun vs H Q _ => ∃ (t b : Int), vs = [.int t, .int b] ∧ b ≠ 0 ∧ ∀ (r : Addr) (H' : Hp), Same H H' → H r = none → PairAt H' r (RT.top t b) (RT.bot t b) → Q (.ref r) H'
def spBinB (g g' : Int → Int → Int → Int → Int) : Sp := fun vs H Q _ => ∃ (p q : Addr) (n d m e : Int), vs = [.ref p, .ref q] ∧ PairAt H p n d ∧ PairAt H q m e ∧ d ≠ 0 ∧ e ≠ 0 ∧ Hg n ∧ Hg d ∧ Hg m ∧ Hg e ∧
  ∀ (r : Addr) (H' : Hp), Same H H' → H r = none → PairAt H' r (RT.top (g n d m e) (g' n d m e)) (RT.bot (g n d m e) (g' n d m e)) → Q (.ref r) H'
def spSumB : Sp := spBinB (fun n d m e => n * e + m * d) (fun _ d _ e => d * e)
def spByB : Sp := spBinB (fun n _ m _ => n * m) (fun _ d _ e => d * e)
section
variable {P : Program} {w : World} {K : PySem.W.Frag} {mg : Str → Option Value} {base : Heap}
theorem scIB : FnScope ["self", "top", "bottom", "shared", "by"] ["self", "top", "bottom"] (defScope sInit) := ⟨rfl, rfl, rfl, by decide +kernel, rfl, by decide +kernel, by decide +kernel⟩
theorem ok_initB (B : PL.Big P base) {f C : Addr} {fd : FuncData} (F : FunD K "__init__" "Ratio.__init__" (defArgs sInit) (defBody sInit) (defScope sInit) [.int 1] [] f fd) (T : TxtR K mg C) : FnOk P w K mg base CX0 33 f fd ["self", "top", "bottom"] (spInitB C) := by
  refine F.ok scIB (fun vs H Q E h => ?_) (fun cdv A outer s H vs Q E hr h => ?_)
  · obtain ⟨p, dx, t, b, rfl, _⟩ := h
    rfl
  · obtain ⟨p, dx, t, b, rfl, hp, hb, k⟩ := h
    refine ⟨_, pss_cons (ps_if (pt_cmpR op_eq (pv 2) pe_int (nomark _)) (pss_one ps_never) pss_nil)
      (pss_cons (ps_set (i := 3) scIB.nd rfl (Or.inl rfl) (pe_callBfun cr_gcd (by rfl) T.gcd (pa_cons (pv 1) (pa_cons (pv 2) pa_nil))))
      (pss_cons (ps_set (i := 4) scIB.nd rfl (Or.inl rfl) (pe_ifExp (pt_cmpR op_gt (pv 2) pe_int (nomark _)) (pv 3) (pe_un un_neg (pv 3))))
      (pss_cons (ps_fld (pv 0) (pe_op (PL.op_fdivP B hr ⟨_, _, rfl, rfl, rfl, rfl, rfl⟩) (pv 1) (pv 4)) rfl)
      (pss_one (ps_fld (pv 0) (pe_op (PL.op_fdivP B hr ⟨_, _, rfl, rfl, rfl, rfl, rfl⟩) (pv 2) (pv 4)) rfl))))), ?_⟩
    refine ⟨_, rfl, rfl, _, rfl, ?_⟩
    refine ite2 (fun z => ?_) (fun _ => ?_)
    · have z' := of_decide_eq_true z
      injection z' with z'
      exact absurd z' hb
    refine ⟨_, rfl, _, rfl, t, b, rfl, ?_⟩
    refine ⟨_, rfl, _, _, rfl, rfl, _, rfl, ?_⟩
    have by_ne := RT.byv_ne (t := t) hb
    have hdiv : ∀ y : Int, y = RT.byv t b → y ≠ 0 := fun y e => by rw [e]; exact by_ne
    have key : (if decide (b > 0) = true then RT.gg t b else -RT.gg t b) = RT.byv t b := by
      unfold RT.byv
      by_cases h0 : b > 0
      · rw [if_pos h0, if_pos (decide_eq_true h0)]
      · rw [if_neg h0, if_neg (by rw [decide_eq_false h0]; exact Bool.false_ne_true)]
    have fin : ∀ x : Int, x = RT.byv t b → Q .non (upd (upd H p (.ins C dx (putF "top" (.int (t.fdiv x)) []))) p (.ins C dx (putF "bottom" (.int (b.fdiv x)) (putF "top" (.int (t.fdiv x)) [])))) := fun x e => by
      subst e
      refine k _ ⟨dx, upd_same⟩ fun c o hc ne => ?_
      rw [upd_ne ne, upd_ne ne]
      exact hc
    refine ite2 (fun z => ?_) (fun z => ?_)
    · rw [if_pos z] at key
      refine ⟨_, rfl, _, rfl, _, rfl, _, _, rfl, rfl, (hdiv _ key), _, rfl, p, C, dx, [], rfl, hp, T.cl, T.nT, (by show 0 < 1000; decide), ?_⟩
      exact ⟨_, rfl, _, rfl, _, _, rfl, rfl, (hdiv _ key), _, rfl, p, C, dx, _, rfl, upd_same, T.cl, T.nB, (by show 1 < 1000; decide), fin _ key⟩
    · rw [if_neg z] at key
      refine ⟨_, rfl, _, rfl, _, rfl, _, rfl, _, _, rfl, rfl, (hdiv _ key), _, rfl, p, C, dx, [], rfl, hp, T.cl, T.nT, (by show 0 < 1000; decide), ?_⟩
      exact ⟨_, rfl, _, rfl, _, _, rfl, rfl, (hdiv _ key), _, rfl, p, C, dx, _, rfl, upd_same, T.cl, T.nB, (by show 1 < 1000; decide), fin _ key⟩
theorem scPB : FnScope ["above", "below", "one", "two"] ["above", "below"] (defScope sPair) := ⟨rfl, rfl, rfl, by decide +kernel, rfl, by decide +kernel, by decide +kernel⟩
theorem ok_pairB (B : PL.Big P base) {f : Addr} {fd : FuncData} (F : Fun K "_law_pair" "_law_pair" sPair f fd) (T : TxtL mg) : FnOk P w K mg base CX0 33 f fd ["above", "below"] spPairB := by
  refine F.ok scPB (fun vs H Q E h => ?_) (fun cdv A outer s H vs Q E hr h => ?_)
  · obtain ⟨t, b, rfl, _⟩ := h
    rfl
  · obtain ⟨t, b, rfl, hb, k⟩ := h
    refine ⟨_, pss_cons (ps_set (i := 2) scPB.nd rfl (.inl rfl) (pe_callB call_abs (by rfl) T.abs (by decide +kernel) (pa_cons (pv 0) pa_nil)))
      (pss_cons (ps_set (i := 3) scPB.nd rfl (.inl rfl) (pe_callB call_abs (by rfl) T.abs (by decide +kernel) (pa_cons (pv 1) pa_nil)))
      (pss_cons (ps_while PassesOwn.never (pt_cmpR op_gt (pv 3) pe_int (nomark _))
        (pss_one (ps_par (i := 2) (j := 3) (by rfl) scPB.nd rfl rfl (by decide) rfl rfl (pa_cons (pv 3) (pa_cons (pe_op op_mod (pe_callTy call_int1 (by rfl) T.int (by decide +kernel) (pa_cons (pv 2) pa_nil)) (pv 3)) pa_nil)) (by rfl))))
      (C8.pss_cut (ps_if (pt_cmpR op_lt (pv 1) pe_int (nomark _)) (pss_one (ps_set (i := 2) scPB.nd rfl (.inl rfl) (pe_op op_sub pe_int (pv 2)))) pss_nil)
      (pss_one (ps_ret (pe_tup (pa_cons (pe_op (PL.op_fdivP B hr ⟨_, _, rfl, rfl, rfl, rfl, rfl⟩) (pv 0) (pv 2)) (pa_cons (pe_op (PL.op_fdivP B hr ⟨_, _, rfl, rfl, rfl, rfl, rfl⟩) (pv 1) (pv 2)) pa_nil)))))))), ?_⟩
    refine ⟨_, rfl, t, rfl, _, rfl, b, rfl, ?_⟩
    have ab : ∀ x : Int, 0 ≤ (if x < 0 then -x else x) ∧ (if x < 0 then -x else x).natAbs = x.natAbs := fun x => by split <;> omega
    refine while_by (fun σ H' => ∃ x y : Int, σ = [some (.int t), some (.int b), some (.int x), some (.int y)] ∧ H' = H ∧ 0 ≤ x ∧ 0 ≤ y ∧ Nat.gcd x.natAbs y.natAbs = Nat.gcd t.natAbs b.natAbs)
      (fun σ _ => match σ with | [_, _, _, some (.int y)] => y.toNat | _ => 0)
      ⟨_, _, rfl, rfl, (ab t).1, (ab b).1, by rw [(ab t).2, (ab b).2]⟩ ?_ (fun σ H' R R' h q => by
        obtain ⟨v, hv, i, j, e1, e2, kk, e3, q⟩ := q
        exact ⟨v, hv, i, j, e1, e2, kk, e3, h _ _ q⟩)
    rintro σ H' ⟨x, y, rfl, rfl, x0, y0, g⟩
    refine ⟨_, rfl, _, _, rfl, rfl, _, rfl, ?_⟩
    refine ite2 (fun z => ?_) (fun z => ?_)
    · have z := of_decide_eq_true z
      refine ⟨_, rfl, _, rfl, .inl ⟨_, rfl, _, rfl, _, _, rfl, rfl, z, ?_⟩⟩
      have m0 := Int.emod_nonneg x (show y ≠ 0 by omega)
      have m1 := Int.emod_lt_of_pos x z
      refine ⟨_, _, rfl, ⟨_, _, rfl, rfl, y0, m0, ?_⟩, ?_⟩
      · rw [Nat.gcd_comm, ← g]
        have : (x % y).natAbs = x.natAbs % y.natAbs := by
          rw [Int.natAbs_emod_of_nonneg x0]
        rw [this, Nat.gcd_comm x.natAbs, Nat.gcd_rec y.natAbs x.natAbs]
      · show (x % y).toNat < y.toNat
        omega
    · have z : ¬ y > 0 := fun h => z (decide_eq_true h)
      have y00 : y = 0 := by omega
      subst y00
      have hg : x = RT.gg t b := by
        unfold RT.gg
        rw [← g]
        show x = ((Nat.gcd x.natAbs 0 : Nat) : Int)
        rw [Nat.gcd_zero_right]
        omega
      refine ⟨fun σ' H2 => σ' = [some (.int t), some (.int b), some (.int (RT.byv t b)), some (.int 0)] ∧ H2 = H', ?_, ?_⟩
      · refine ⟨_, rfl, _, _, rfl, rfl, _, rfl, ?_⟩
        refine ite2 (fun z => ?_) (fun z => ?_)
        · have z := of_decide_eq_true z
          refine ⟨_, rfl, _, _, rfl, rfl, ?_, rfl⟩
          have e : (0 : Int) - x = RT.byv t b := by
            unfold RT.byv
            rw [if_neg (by omega), hg]
            omega
          show [some (V.int t), some (V.int b), some (V.int (0 - x)), some (V.int 0)] = _
          rw [e]
        · have z : ¬ b < 0 := fun h => z (decide_eq_true h)
          refine ⟨?_, rfl⟩
          have e : x = RT.byv t b := by
            unfold RT.byv
            rw [if_pos (by omega), hg]
          rw [e]
      · rintro σ' H' ⟨rfl, rfl⟩
        refine ⟨_, rfl, _, rfl, _, _, rfl, rfl, RT.byv_ne hb, _, rfl, _, rfl, _, _, rfl, rfl, RT.byv_ne hb, (by show 2 ≤ sizeLine; decide), fun r nr => ?_⟩
        exact k r _ (Same.upd nr) nr upd_same
theorem scSuB : FnScope ["one", "two"] ["one", "two"] (defScope sSum) := ⟨rfl, rfl, rfl, by decide +kernel, rfl, by decide +kernel, by decide +kernel⟩
theorem scBB : FnScope ["one", "two"] ["one", "two"] (defScope sBy) := ⟨rfl, rfl, rfl, by decide +kernel, rfl, by decide +kernel, by decide +kernel⟩
theorem ok_sumB {f fP : Addr} {fd fdP : FuncData} (F : Fun K "_law_sum" "_law_sum" sSum f fd) (GP : FnOk P w K mg base CX0 33 fP fdP ["above", "below"] spPairB) (mP : mg "_law_pair" = some (.ref fP)) (kP : PySem.W.keepIn K (.ref fP) = true) (bP : Binds K fdP ["above", "below"] []) :
    FnOk P w K mg base CX0 34 f fd ["one", "two"] spSumB := by
  refine F.ok scSuB (fun vs H Q E h => ?_) (fun cdv A outer s H vs Q E hr h => ?_)
  · obtain ⟨p, q, n, d, m, e, rfl, _⟩ := h
    rfl
  · obtain ⟨p, q, n, d, m, e, rfl, hp, hq, hd, he, sn, sd, sm, se, kk⟩ := h
    refine ⟨_, C8.pss_cut (ps_if (PW.pt (pw_and (pt_cmpR op_eq (pe_ix ix_tup (pv 0) pe_int (fun _ _ => rfl)) pe_int (nomark _)) (pw_and1 (pt_cmpR op_eq (pe_ix ix_tup (pv 1) pe_int (fun _ _ => rfl)) pe_int (nomark _)))))
        (pss_one (ps_ret (pe_tup (pa_cons (pe_op op_add (pe_ix ix_tup (pv 0) pe_int (fun _ _ => rfl)) (pe_ix ix_tup (pv 1) pe_int (fun _ _ => rfl))) (pa_cons pe_int pa_nil))))) pss_nil)
      (pss_one (ps_ret (pe_call GP hr rfl mP kP bP .nil pass0 (pa_cons (pe_op op_add (pe_op RQ.op_mulH (pe_ix ix_tup (pv 0) pe_int (fun _ _ => rfl)) (pe_ix ix_tup (pv 1) pe_int (fun _ _ => rfl))) (pe_op RQ.op_mulH (pe_ix ix_tup (pv 1) pe_int (fun _ _ => rfl)) (pe_ix ix_tup (pv 0) pe_int (fun _ _ => rfl))))
        (pa_cons (pe_op RQ.op_mulH (pe_ix ix_tup (pv 0) pe_int (fun _ _ => rfl)) (pe_ix ix_tup (pv 1) pe_int (fun _ _ => rfl))) pa_nil))))), ?_⟩
    refine ⟨fun σ' H2 => σ' = [some (.ref p), some (.ref q)] ∧ H2 = H, ?_, ?_⟩
    · refine ⟨_, rfl, p, _, 1, _, rfl, rfl, hp.t, rfl, rfl, _, rfl, ?_⟩
      refine ite2 (fun z => ?_) (fun _ => ⟨rfl, rfl⟩)
      have z := of_decide_eq_true z
      injection z with z
      subst z
      refine ⟨_, rfl, q, _, 1, _, rfl, rfl, hq.t, rfl, rfl, _, rfl, ?_⟩
      refine ite2 (fun z => ?_) (fun _ => ⟨rfl, rfl⟩)
      have z := of_decide_eq_true z
      injection z with z
      subst z
      refine ⟨_, rfl, p, _, 0, _, rfl, rfl, hp.t, rfl, _, rfl, q, _, 0, _, rfl, rfl, hq.t, rfl, _, _, rfl, rfl, (by show 2 ≤ sizeLine; decide), fun r nr => ?_⟩
      refine kk r _ (Same.upd nr) nr ?_
      have o := RT.one (n * 1 + m * 1)
      show upd H r _ r = some (.tup [.int (RT.top (n * 1 + m * 1) 1), .int (RT.bot (n * 1 + m * 1) 1)])
      rw [upd_same, o.1, o.2, Int.mul_one, Int.mul_one]
    · rintro σ' H2 ⟨rfl, rfl⟩
      refine ⟨_, rfl, p, _, 0, _, rfl, rfl, hp.t, rfl, _, rfl, q, _, 1, _, rfl, rfl, hq.t, rfl, _, _, rfl, rfl, ⟨sn, se⟩, _, rfl, q, _, 0, _, rfl, rfl, hq.t, rfl, _, rfl, p, _, 1, _, rfl, rfl, hp.t, rfl, _, _, rfl, rfl, ⟨sm, sd⟩, _, _, rfl, rfl, _, rfl, p, _, 1, _, rfl, rfl, hp.t, rfl, _, rfl, q, _, 1, _, rfl, rfl, hq.t, rfl, _, _, rfl, rfl, ⟨sd, se⟩, ?_⟩
      exact ⟨_, _, rfl, Int.mul_ne_zero hd he, kk⟩
theorem ok_byB {f fP : Addr} {fd fdP : FuncData} (F : Fun K "_law_by" "_law_by" sBy f fd) (GP : FnOk P w K mg base CX0 33 fP fdP ["above", "below"] spPairB) (mP : mg "_law_pair" = some (.ref fP)) (kP : PySem.W.keepIn K (.ref fP) = true) (bP : Binds K fdP ["above", "below"] []) :
    FnOk P w K mg base CX0 34 f fd ["one", "two"] spByB := by
  refine F.ok scBB (fun vs H Q E h => ?_) (fun cdv A outer s H vs Q E hr h => ?_)
  · obtain ⟨p, q, n, d, m, e, rfl, _⟩ := h
    rfl
  · obtain ⟨p, q, n, d, m, e, rfl, hp, hq, hd, he, sn, sd, sm, se, kk⟩ := h
    refine ⟨_, C8.pss_cut (ps_if (PW.pt (pw_and (pt_cmpR op_eq (pe_ix ix_tup (pv 0) pe_int (fun _ _ => rfl)) pe_int (nomark _)) (pw_and1 (pt_cmpR op_eq (pe_ix ix_tup (pv 1) pe_int (fun _ _ => rfl)) pe_int (nomark _)))))
        (pss_one (ps_ret (pe_tup (pa_cons (pe_op RQ.op_mulH (pe_ix ix_tup (pv 0) pe_int (fun _ _ => rfl)) (pe_ix ix_tup (pv 1) pe_int (fun _ _ => rfl))) (pa_cons pe_int pa_nil))))) pss_nil)
      (pss_one (ps_ret (pe_call GP hr rfl mP kP bP .nil pass0 (pa_cons (pe_op RQ.op_mulH (pe_ix ix_tup (pv 0) pe_int (fun _ _ => rfl)) (pe_ix ix_tup (pv 1) pe_int (fun _ _ => rfl)))
        (pa_cons (pe_op RQ.op_mulH (pe_ix ix_tup (pv 0) pe_int (fun _ _ => rfl)) (pe_ix ix_tup (pv 1) pe_int (fun _ _ => rfl))) pa_nil))))), ?_⟩
    refine ⟨fun σ' H2 => σ' = [some (.ref p), some (.ref q)] ∧ H2 = H, ?_, ?_⟩
    · refine ⟨_, rfl, p, _, 1, _, rfl, rfl, hp.t, rfl, rfl, _, rfl, ?_⟩
      refine ite2 (fun z => ?_) (fun _ => ⟨rfl, rfl⟩)
      have z := of_decide_eq_true z
      injection z with z
      subst z
      refine ⟨_, rfl, q, _, 1, _, rfl, rfl, hq.t, rfl, rfl, _, rfl, ?_⟩
      refine ite2 (fun z => ?_) (fun _ => ⟨rfl, rfl⟩)
      have z := of_decide_eq_true z
      injection z with z
      subst z
      refine ⟨_, rfl, p, _, 0, _, rfl, rfl, hp.t, rfl, _, rfl, q, _, 0, _, rfl, rfl, hq.t, rfl, _, _, rfl, rfl, ⟨sn, sm⟩, (by show 2 ≤ sizeLine; decide), fun r nr => ?_⟩
      refine kk r _ (Same.upd nr) nr ?_
      have o := RT.one (n * m)
      show upd H r _ r = some (.tup [.int (RT.top (n * m) 1), .int (RT.bot (n * m) 1)])
      rw [upd_same, o.1, o.2]
    · rintro σ' H2 ⟨rfl, rfl⟩
      refine ⟨_, rfl, p, _, 0, _, rfl, rfl, hp.t, rfl, _, rfl, q, _, 0, _, rfl, rfl, hq.t, rfl, _, _, rfl, rfl, ⟨sn, sm⟩, _, rfl, p, _, 1, _, rfl, rfl, hp.t, rfl, _, rfl, q, _, 1, _, rfl, rfl, hq.t, rfl, _, _, rfl, rfl, ⟨sd, se⟩, ?_⟩
      exact ⟨_, _, rfl, Int.mul_ne_zero hd he, kk⟩
end
end RX

set_option Elab.async false
set_option maxRecDepth 100000
/-! rows of numbers: products, what a row taken from another leaves, tables in reduced form -/
namespace VM
open RQ
/-- the sum of the products of the first w -/
def dot (u y : Nat → Rat) : Nat → Rat
  | 0 => 0
  | w + 1 => dot u y w + u w * y w
theorem dot_congr {u u' y y' : Nat → Rat} : ∀ {w : Nat}, (∀ j, j < w → u j = u' j) → (∀ j, j < w → y j = y' j) → dot u y w = dot u' y' w
  | 0, _, _ => rfl
  | w + 1, h, k => by
    unfold dot
    rw [dot_congr (fun j hj => h j (by omega)) (fun j hj => k j (by omega)), h w (by omega), k w (by omega)]
theorem dot_lin {u v y : Nat → Rat} (s c : Rat) : ∀ {w : Nat}, dot (fun j => s * (u j - c * v j)) y w = s * (dot u y w - c * dot v y w)
  | 0 => by unfold dot; grind
  | w + 1 => by
    unfold dot
    rw [dot_lin s c]
    grind
theorem dot_zero {u y : Nat → Rat} : ∀ {w : Nat}, (∀ j, j < w → u j * y j = 0) → dot u y w = 0
  | 0, _ => rfl
  | w + 1, h => by
    unfold dot
    rw [dot_zero fun j hj => h j (by omega), h w (by omega)]
    grind
/-- all but one of the products are 0 -/
theorem dot_one {u y : Nat → Rat} {k : Nat} : ∀ {w : Nat}, k < w → (∀ j, j < w → j ≠ k → u j * y j = 0) → dot u y w = u k * y k
  | 0, h, _ => absurd h (by omega)
  | w + 1, h, z => by
    unfold dot
    by_cases e : k = w
    · subst e
      rw [dot_zero fun j hj => z j (by omega) (by omega)]
      grind
    · rw [dot_one (w := w) (by omega) fun j hj ne => z j (by omega) ne, z w (by omega) (by omega)]
      grind
/-- y is 0 on all rows -/
def Ann (h w : Nat) (A : Nat → Nat → Rat) (y : Nat → Rat) : Prop := ∀ i, i < h → dot (A i) y w = 0
/-- u less so much of v that it is 0 at l, times some number -/
def Less (w l : Nat) (u v u' : Nat → Rat) : Prop := ∃ s : Rat, s ≠ 0 ∧ ∀ j, j < w → u' j = s * (u j - u l / v l * v j)
theorem Less.dot {w l : Nat} {u v u' y : Nat → Rat} (h : Less w l u v u') (hv : dot v y w = 0) : dot u' y w = 0 ↔ dot u y w = 0 := by
  obtain ⟨s, hs, e⟩ := h
  rw [dot_congr e (fun _ _ => rfl), dot_lin, hv]
  constructor
  · intro z; grind
  · intro z; rw [z]; grind
theorem Less.at {w l : Nat} {u v u' : Nat → Rat} (h : Less w l u v u') (hl : l < w) (hv : v l ≠ 0) : u' l = 0 := by
  obtain ⟨s, hs, e⟩ := h
  rw [e l hl]
  grind
theorem Less.zero {w l j : Nat} {u v u' : Nat → Rat} (h : Less w l u v u') (hj : j < w) (h1 : u j = 0) (h2 : v j = 0) : u' j = 0 := by
  obtain ⟨s, hs, e⟩ := h
  rw [e j hj, h1, h2]
  grind
theorem Less.keep {w l j : Nat} {u v u' : Nat → Rat} (h : Less w l u v u') (hj : j < w) (h1 : u j ≠ 0) (h2 : v j = 0) : u' j ≠ 0 := by
  obtain ⟨s, hs, e⟩ := h
  rw [e j hj, h2]
  intro z
  grind
theorem Less.refl {w l : Nat} {u v : Nat → Rat} (h : u l = 0) : Less w l u v u := ⟨1, by decide, fun j _ => by rw [h]; grind⟩
/-- found rows: each with its own lead, 0 ahead of it and at the leads of the earlier ones -/
structure Ech (n w : Nat) (l : Nat → Nat) (v : Nat → Nat → Rat) : Prop where
  lt : ∀ k, k < n → l k < w
  nz : ∀ k, k < n → v k (l k) ≠ 0
  zb : ∀ k, k < n → ∀ j, j < l k → v k j = 0
  zz : ∀ k, k < n → ∀ i, i < k → v k (l i) = 0
theorem Ech.inj {n w : Nat} {l : Nat → Nat} {v : Nat → Nat → Rat} (E : Ech n w l v) {i k : Nat} (hi : i < n) (hk : k < n) (e : l i = l k) : i = k := by
  rcases Nat.lt_trichotomy i k with h | h | h
  · have := E.zz k hk i h
    rw [e] at this
    exact absurd this (E.nz k hk)
  · exact h
  · have := E.zz i hi k h
    rw [← e] at this
    exact absurd this (E.nz i hi)
/-- a table in reduced form -/
structure Rref (r w : Nat) (F : Nat → Nat → Rat) (L : Nat → Nat) : Prop where
  lt : ∀ t, t < r → L t < w
  up : ∀ s t, s < t → t < r → L s < L t
  one : ∀ t, t < r → F t (L t) = 1
  off : ∀ s t, s < r → t < r → s ≠ t → F s (L t) = 0
  zb : ∀ t, t < r → ∀ j, j < L t → F t j = 0
/-! ### sizes -/
/-- bottoms that divide the column's, tops of at most b bits -/
structure VB (M : Nat → Int) (b w : Nat) (u : Nat → Rat) : Prop where
  d : ∀ j, j < w → ((u j).den : Int) ∣ M j
  n : ∀ j, j < w → Bt b (u j).num
structure MB (M : Nat → Int) (m w : Nat) : Prop where
  p : ∀ j, j < w → 0 < M j
  b : ∀ j, j < w → Bt m (M j)
theorem VB.up {M : Nat → Int} {a b w : Nat} {u : Nat → Rat} (h : VB M a w u) (l : a ≤ b) : VB M b w u := ⟨h.d, fun j hj => (h.n j hj).up l⟩
theorem VB.den {M : Nat → Int} {m b w : Nat} {u : Nat → Rat} (h : VB M b w u) (k : MB M m w) {j : Nat} (hj : j < w) : Bt m ((u j).den : Int) := by
  refine (k.b j hj).le ?_
  have := k.p j hj
  exact Nat.le_of_dvd (by omega) (Int.natAbs_dvd_natAbs.mpr (h.d j hj))
theorem dvd_bt {b : Nat} {x y : Int} (h : x ∣ y) (z : y ≠ 0) (k : Bt b y) : Bt b x := k.le (Nat.le_of_dvd (by omega) (Int.natAbs_dvd_natAbs.mpr h))
/-- the factor: its sizes -/
theorem part_bt {M : Nat → Int} {m b1 b2 w l : Nat} {u v : Nat → Rat} (hu : VB M b1 w u) (hv : VB M b2 w v) (k : MB M m w) (hl : l < w) (u0 : u l ≠ 0) (v0 : v l ≠ 0) :
    Bt (b1 + m) (u l / v l).num ∧ Bt (m + b2) ((u l / v l).den : Int) := by
  have e1 := nd (u l)
  have e2 := nd (v l)
  have d1 := den0 (u l)
  have d2 := den0 (v l)
  have n1 : (u l).num ≠ 0 := fun z => u0 (num0.mp z)
  have n2 : (v l).num ≠ 0 := fun z => v0 (num0.mp z)
  have p1 : ((u l).den : Int) ≠ 0 := by have := (u l).den_pos; omega
  have p2 : ((v l).den : Int) ≠ 0 := by have := (v l).den_pos; omega
  have e : (((u l).num * ((v l).den : Int) : Int) : Rat) = u l / v l * (((((u l).den : Int) * (v l).num) : Int) : Rat) := by
    rw [Rat.intCast_mul, Rat.intCast_mul, e1, e2]
    grind
  obtain ⟨q1, q2⟩ := den_dvd (Int.mul_ne_zero p1 n2) e
  refine ⟨dvd_bt q2 (Int.mul_ne_zero n1 p2) ((hu.n l hl).mul (hv.den k hl)), dvd_bt q1 (Int.mul_ne_zero p1 n2) ((hu.den k hl).mul (hv.n l hl))⟩
/-- the tops and bottoms that freeing makes -/
def bt (u v : Nat → Rat) (j : Nat) : Int := ((Nat.lcm (u j).den (v j).den : Nat) : Int)
def tp (u v : Nat → Rat) (l j : Nat) : Int := (u j).num * (bt u v j).fdiv ((u j).den : Int) * ((u l / v l).den : Int) - (v j).num * (bt u v j).fdiv ((v j).den : Int) * (u l / v l).num
theorem bt_pos (u v : Nat → Rat) (j : Nat) : 0 < bt u v j := by
  unfold bt
  have : 0 < Nat.lcm (u j).den (v j).den := Nat.lcm_pos (u j).den_pos (v j).den_pos
  omega
theorem bt_l (u v : Nat → Rat) (j : Nat) : ((u j).den : Int) ∣ bt u v j := by
  unfold bt
  exact Int.natCast_dvd_natCast.mpr (Nat.dvd_lcm_left _ _)
theorem bt_r (u v : Nat → Rat) (j : Nat) : ((v j).den : Int) ∣ bt u v j := by
  unfold bt
  exact Int.natCast_dvd_natCast.mpr (Nat.dvd_lcm_right _ _)
theorem bt_dvd {M : Nat → Int} {m b1 b2 w j : Nat} {u v : Nat → Rat} (hu : VB M b1 w u) (hv : VB M b2 w v) (k : MB M m w) (hj : j < w) : bt u v j ∣ M j := by
  unfold bt
  have h1 := Int.natAbs_dvd_natAbs.mpr (hu.d j hj)
  have h2 := Int.natAbs_dvd_natAbs.mpr (hv.d j hj)
  refine Int.natAbs_dvd_natAbs.mp ?_
  rw [Int.natAbs_natCast] at *
  exact Nat.lcm_dvd h1 h2
theorem tp_eq (u v : Nat → Rat) (l j : Nat) : ((tp u v l j : Int) : Rat) = ((u l / v l).den : Int) * (u j - u l / v l * v j) * ((bt u v j : Int) : Rat) := by
  have c1 := RT.fdiv_of_dvd (by have := (u j).den_pos; omega) (bt_l u v j)
  have c2 := RT.fdiv_of_dvd (by have := (v j).den_pos; omega) (bt_r u v j)
  have e1 := nd (u j)
  have e2 := nd (v j)
  have e3 := nd (u l / v l)
  have r1 : (((bt u v j).fdiv ((u j).den : Int) : Int) : Rat) * (((u j).den : Int) : Rat) = ((bt u v j : Int) : Rat) := by rw [← Rat.intCast_mul, c1]
  have r2 : (((bt u v j).fdiv ((v j).den : Int) : Int) : Rat) * (((v j).den : Int) : Rat) = ((bt u v j : Int) : Rat) := by rw [← Rat.intCast_mul, c2]
  unfold tp
  rw [Rat.intCast_sub, Rat.intCast_mul, Rat.intCast_mul, Rat.intCast_mul, Rat.intCast_mul]
  generalize (((bt u v j).fdiv ((u j).den : Int) : Int) : Rat) = q1 at *
  generalize (((bt u v j).fdiv ((v j).den : Int) : Int) : Rat) = q2 at *
  generalize ((bt u v j : Int) : Rat) = B at *
  generalize u l / v l = c at *
  generalize ((c.den : Int) : Rat) = cd at *
  generalize (((u j).den : Int) : Rat) = ud at *
  generalize (((v j).den : Int) : Rat) = vd at *
  generalize ((u j).num : Rat) = un at *
  generalize ((v j).num : Rat) = vn at *
  generalize (c.num : Rat) = cn at *
  subst e1 e2 e3
  grind
theorem quot_bt {m : Nat} {x y : Int} (h : y ∣ x) (hy : y ≠ 0) (k : Bt m x) : Bt m (x.fdiv y) := by
  have e := RT.fdiv_of_dvd hy h
  refine k.le ?_
  rw [← congrArg Int.natAbs e, Int.natAbs_mul]
  exact Nat.le_mul_of_pos_right _ (by omega)
theorem tp_bt {M : Nat → Int} {m b1 b2 w l j : Nat} {u v : Nat → Rat} (hu : VB M b1 w u) (hv : VB M b2 w v) (k : MB M m w) (hl : l < w) (hj : j < w) (u0 : u l ≠ 0) (v0 : v l ≠ 0) :
    Bt m (bt u v j) ∧ Bt (b1 + m) ((u j).num * (bt u v j).fdiv ((u j).den : Int)) ∧ Bt (b2 + m) ((v j).num * (bt u v j).fdiv ((v j).den : Int)) ∧ Bt (b1 + b2 + 2 * m + 1) (tp u v l j) := by
  obtain ⟨c1, c2⟩ := part_bt hu hv k hl u0 v0
  have B : Bt m (bt u v j) := dvd_bt (bt_dvd hu hv k hj) (by have := k.p j hj; omega) (k.b j hj)
  have q1 := quot_bt (bt_l u v j) (by have := (u j).den_pos; omega) B
  have q2 := quot_bt (bt_r u v j) (by have := (v j).den_pos; omega) B
  have t1 := (hu.n j hj).mul q1
  have t2 := (hv.n j hj).mul q2
  refine ⟨B, t1, t2, ?_⟩
  exact ((t1.mul c2).up (by omega)).sub ((t2.mul c1).up (by omega))
end VM

set_option Elab.async false
set_option maxRecDepth 100000
namespace VM
open RQ
/-- the greatest factor of the first k -/
def gf (z : Nat → Int) : Nat → Nat
  | 0 => 0
  | k + 1 => Nat.gcd (gf z k) (z k).natAbs
theorem gf_dvd {z : Nat → Int} : ∀ {k j : Nat}, j < k → ((gf z k : Nat) : Int) ∣ z j
  | 0, _, h => absurd h (by omega)
  | k + 1, j, h => by
    unfold gf
    by_cases e : j = k
    · subst e
      exact Int.natAbs_dvd_natAbs.mp (by rw [Int.natAbs_natCast]; exact Nat.gcd_dvd_right _ _)
    · have := gf_dvd (z := z) (k := k) (j := j) (by omega)
      exact Int.dvd_trans (Int.natCast_dvd_natCast.mpr (Nat.gcd_dvd_left _ _)) this
theorem gf_pos {z : Nat → Int} : ∀ {k j : Nat}, j < k → z j ≠ 0 → 0 < gf z k
  | 0, _, h, _ => absurd h (by omega)
  | k + 1, j, h, n => by
    unfold gf
    by_cases e : j = k
    · subst e
      exact Nat.gcd_pos_of_pos_right _ (by omega)
    · exact Nat.gcd_pos_of_pos_left _ (gf_pos (z := z) (k := k) (j := j) (by omega) n)
def bz (u v : Nat → Rat) (l j : Nat) : Int := if tp u v l j = 0 then 0 else bt u v j
theorem sub_cast (a b : Int) : ((a - b : Int) : Rat) = (a : Rat) - (b : Rat) := Rat.intCast_sub a b
/-- what freeing makes of each place -/
theorem freed {M : Nat → Int} {m b1 b2 w l : Nat} {u v : Nat → Rat} (hu : VB M b1 w u) (hv : VB M b2 w v) (k : MB M m w) (hl : l < w) (u0 : u l ≠ 0) (v0 : v l ≠ 0) :
    ∃ u' : Nat → Rat, Less w l u v u' ∧ VB M (b1 + b2 + 2 * m + 1) w u' ∧ ∀ j, j < w →
      (tp u v l j = 0 → u' j = 0) ∧
      (tp u v l j ≠ 0 → ((gf (tp u v l) w : Nat) : Int) ≠ 0 ∧ ((gf (bz u v l) w : Nat) : Int) ≠ 0 ∧ (bt u v j).fdiv ((gf (bz u v l) w : Nat) : Int) ≠ 0 ∧
        RT.top ((tp u v l j).fdiv ((gf (tp u v l) w : Nat) : Int)) ((bt u v j).fdiv ((gf (bz u v l) w : Nat) : Int)) = (u' j).num ∧
        RT.bot ((tp u v l j).fdiv ((gf (tp u v l) w : Nat) : Int)) ((bt u v j).fdiv ((gf (bz u v l) w : Nat) : Int)) = ((u' j).den : Int)) := by
  have cd := den0 (u l / v l)
  by_cases all : ∀ j, j < w → tp u v l j = 0
  · refine ⟨fun _ => 0, ⟨1, by decide, fun j hj => ?_⟩, ⟨fun j hj => ⟨M j, by show M j = 1 * M j; rw [Int.one_mul]⟩, fun j hj => ?_⟩, fun j hj => ⟨fun _ => rfl, fun n => absurd (all j hj) n⟩⟩
    · have e := tp_eq u v l j
      rw [all j hj] at e
      have b0 := i0 (show bt u v j ≠ 0 by have := bt_pos u v j; omega)
      have e0 : ((0 : Int) : Rat) = 0 := rfl
      rw [e0] at e
      grind
    · show Bt _ (0 : Rat).num
      exact Nat.two_pow_pos _
  · obtain ⟨i, hi, hn⟩ : ∃ i, i < w ∧ tp u v l i ≠ 0 := by
      refine Classical.byContradiction fun no => all fun j hj => Classical.byContradiction fun n => no ⟨j, hj, n⟩
    have A0 := gf_pos (z := tp u v l) hi hn
    have bn : bz u v l i ≠ 0 := by unfold bz; rw [if_neg hn]; have := bt_pos u v i; omega
    have B0 := gf_pos (z := bz u v l) hi bn
    generalize hA : gf (tp u v l) w = A at *
    generalize hB : gf (bz u v l) w = B at *
    have A1 : ((A : Nat) : Int) ≠ 0 := by omega
    have B1 : ((B : Nat) : Int) ≠ 0 := by omega
    have A2 := i0 A1
    have B2 := i0 B1
    have s0 : ((B : Int) : Rat) / ((A : Int) : Rat) * (((u l / v l).den : Int) : Rat) ≠ 0 := by
      intro z; grind
    have val : ∀ j, j < w → tp u v l j ≠ 0 → ((B : Nat) : Int) ∣ bt u v j ∧ (bt u v j).fdiv ((B : Nat) : Int) ≠ 0 ∧
        (((tp u v l j).fdiv ((A : Nat) : Int) : Int) : Rat) = ((B : Int) : Rat) / ((A : Int) : Rat) * (((u l / v l).den : Int) : Rat) * (u j - u l / v l * v j) * (((bt u v j).fdiv ((B : Nat) : Int) : Int) : Rat) := fun j hj n => by
      have dA : ((A : Nat) : Int) ∣ tp u v l j := by rw [← hA]; exact gf_dvd hj
      have dB : ((B : Nat) : Int) ∣ bt u v j := by
        have := gf_dvd (z := bz u v l) hj
        rw [hB] at this
        unfold bz at this
        rw [if_neg n] at this
        exact this
      have f1 := RT.fdiv_of_dvd A1 dA
      have f2 := RT.fdiv_of_dvd B1 dB
      have bp := bt_pos u v j
      have ne : (bt u v j).fdiv ((B : Nat) : Int) ≠ 0 := fun z => by rw [z, Int.zero_mul] at f2; omega
      refine ⟨dB, ne, ?_⟩
      have e := tp_eq u v l j
      have g1 : (((tp u v l j).fdiv ((A : Nat) : Int) : Int) : Rat) * ((A : Int) : Rat) = ((tp u v l j : Int) : Rat) := by rw [← Rat.intCast_mul, f1]
      have g2 : (((bt u v j).fdiv ((B : Nat) : Int) : Int) : Rat) * ((B : Int) : Rat) = ((bt u v j : Int) : Rat) := by rw [← Rat.intCast_mul, f2]
      rw [e] at g1
      grind
    refine ⟨fun j => ((B : Int) : Rat) / ((A : Int) : Rat) * (((u l / v l).den : Int) : Rat) * (u j - u l / v l * v j), ⟨_, s0, fun _ _ => rfl⟩, ⟨fun j hj => ?_, fun j hj => ?_⟩, fun j hj => ⟨fun z => ?_, fun n => ?_⟩⟩
    · by_cases n : tp u v l j = 0
      · have e := tp_eq u v l j
        rw [n] at e
        have b0 := i0 (show bt u v j ≠ 0 by have := bt_pos u v j; omega)
        have e0 : ((0 : Int) : Rat) = 0 := rfl
        rw [e0] at e
        have x0 : u j - u l / v l * v j = 0 := by grind
        show ((((B : Int) : Rat) / ((A : Int) : Rat) * (((u l / v l).den : Int) : Rat) * (u j - u l / v l * v j)).den : Int) ∣ M j
        rw [x0, Rat.mul_zero]
        exact ⟨M j, by show M j = 1 * M j; rw [Int.one_mul]⟩
      · obtain ⟨dB, ne, e⟩ := val j hj n
        have d1 := (den_dvd ne e).1
        refine Int.dvd_trans d1 (Int.dvd_trans ?_ (bt_dvd hu hv k hj))
        exact ⟨((B : Nat) : Int), (RT.fdiv_of_dvd B1 dB).symm⟩
    · by_cases n : tp u v l j = 0
      · have e := tp_eq u v l j
        rw [n] at e
        have b0 := i0 (show bt u v j ≠ 0 by have := bt_pos u v j; omega)
        have e0 : ((0 : Int) : Rat) = 0 := rfl
        rw [e0] at e
        have x0 : u j - u l / v l * v j = 0 := by grind
        show Bt _ (((B : Int) : Rat) / ((A : Int) : Rat) * (((u l / v l).den : Int) : Rat) * (u j - u l / v l * v j)).num
        rw [x0, Rat.mul_zero]
        exact Nat.two_pow_pos _
      · obtain ⟨dB, ne, e⟩ := val j hj n
        have d1 := (den_dvd ne e).2
        have dA : ((A : Nat) : Int) ∣ tp u v l j := by rw [← hA]; exact gf_dvd hj
        have f1 := RT.fdiv_of_dvd A1 dA
        have z1 : (tp u v l j).fdiv ((A : Nat) : Int) ≠ 0 := fun z => by rw [z, Int.zero_mul] at f1; exact n f1.symm
        exact dvd_bt d1 z1 (quot_bt dA A1 (tp_bt hu hv k hl hj u0 v0).2.2.2)
    · have e := tp_eq u v l j
      rw [z] at e
      have b0 := i0 (show bt u v j ≠ 0 by have := bt_pos u v j; omega)
      have e0 : ((0 : Int) : Rat) = 0 := rfl
      rw [e0] at e
      have x0 : u j - u l / v l * v j = 0 := by grind
      show ((B : Int) : Rat) / ((A : Int) : Rat) * (((u l / v l).den : Int) : Rat) * (u j - u l / v l * v j) = 0
      rw [x0, Rat.mul_zero]
    · obtain ⟨dB, ne, e⟩ := val j hj n
      obtain ⟨q1, q2⟩ := low ne e
      exact ⟨A1, B1, ne, q1, q2⟩
end VM

set_option Elab.async false
set_option maxRecDepth 100000
namespace VM
open RQ
/-- bits behind k steps -/
def bK (m e : Nat) : Nat → Nat
  | 0 => e - (2 * m + 1)
  | k + 1 => bK m e k + bK m e k + 2 * m + 1
theorem bK_le {m e : Nat} (h : 2 * m + 1 ≤ e) : ∀ k : Nat, bK m e k + (2 * m + 1) = 2 ^ k * e
  | 0 => by unfold bK; omega
  | k + 1 => by
    have := bK_le h k
    unfold bK
    rw [Nat.pow_succ, Nat.mul_assoc, Nat.mul_comm 2 e, ← Nat.mul_assoc, ← this]
    omega
theorem bK_mono {m e : Nat} {i k : Nat} (h : i ≤ k) : bK m e i ≤ bK m e k := by
  induction h with
  | refl => exact Nat.le_refl _
  | @step k _ ih =>
    show bK m e i ≤ bK m e k + bK m e k + 2 * m + 1
    omega
theorem bK_max {m e k R N : Nat} (h : 2 * m + 1 ≤ e) (hk : k ≤ R) (hN : 2 ^ R * e ≤ N) : bK m e k ≤ N := by
  have h1 := bK_le h R
  have h2 := bK_mono (m := m) (e := e) hk
  omega
/-- unlike numbers below w are at most w -/
theorem pigeon : ∀ {w : Nat} {xs : List Nat}, xs.Nodup → (∀ x ∈ xs, x < w) → xs.length ≤ w
  | 0, xs, _, h => by
    cases xs with
    | nil => exact Nat.le_refl _
    | cons x xs => exact absurd (h x List.mem_cons_self) (by omega)
  | w + 1, xs, nd, h => by
    have nd' : (xs.erase w).Nodup := nd.erase w
    have h' : ∀ x ∈ xs.erase w, x < w := fun x hx => by
      have h1 := h x (List.mem_of_mem_erase hx)
      have h2 : x ≠ w := fun e => by
        rw [e] at hx
        exact (List.Nodup.not_mem_erase nd) hx
      omega
    have ih := pigeon nd' h'
    have := List.length_erase_of_mem (a := w) (l := xs)
    by_cases hm : w ∈ xs
    · have := List.length_erase_of_mem hm
      omega
    · rw [List.erase_of_not_mem hm] at ih
      omega
theorem Ech.le {n w : Nat} {l : Nat → Nat} {v : Nat → Nat → Rat} (E : Ech n w l v) : n ≤ w := by
  have nd : ((List.range n).map l).Nodup := by
    rw [List.nodup_iff_pairwise_ne, List.pairwise_map]
    refine List.Pairwise.imp_of_mem ?_ (List.nodup_iff_pairwise_ne.mp List.nodup_range)
    intro a b ha hb ne e
    exact ne (E.inj (List.mem_range.mp ha) (List.mem_range.mp hb) e)
  have := pigeon nd fun x hx => by
    obtain ⟨k, hk, rfl⟩ := List.mem_map.mp hx
    exact E.lt k (List.mem_range.mp hk)
  rw [List.length_map, List.length_range] at this
  exact this
/-- one more at the end -/
def ex {α : Type} (f : Nat → α) (i : Nat) (x : α) : Nat → α := fun j => if j = i then x else f j
theorem ex_same {α : Type} (f : Nat → α) (i : Nat) (x : α) : ex f i x i = x := if_pos rfl
theorem ex_lt {α : Type} (f : Nat → α) {i j : Nat} (x : α) (h : j < i) : ex f i x j = f j := if_neg (by omega)
theorem Ech.more {n w k : Nat} {l : Nat → Nat} {v : Nat → Nat → Rat} {u : Nat → Rat} (E : Ech n w l v) (hk : k < w) (nz : u k ≠ 0) (zb : ∀ j, j < k → u j = 0) (zz : ∀ i, i < n → u (l i) = 0) : Ech (n + 1) w (ex l n k) (ex v n u) where
  lt := fun j hj => by
    by_cases e : j = n
    · subst e; rw [ex_same]; exact hk
    · rw [ex_lt l k (by omega)]; exact E.lt j (by omega)
  nz := fun j hj => by
    by_cases e : j = n
    · subst e; rw [ex_same, ex_same]; exact nz
    · rw [ex_lt l k (by omega), ex_lt v u (by omega)]; exact E.nz j (by omega)
  zb := fun j hj i hi => by
    by_cases e : j = n
    · subst e; rw [ex_same] at hi ⊢; exact zb i hi
    · rw [ex_lt l k (by omega)] at hi; rw [ex_lt v u (by omega)]; exact E.zb j (by omega) i hi
  zz := fun j hj i hi => by
    by_cases e : j = n
    · subst e; rw [ex_same, ex_lt l k hi]; exact zz i hi
    · rw [ex_lt v u (by omega), ex_lt l k (by omega)]; exact E.zz j (by omega) i hi
theorem ann_succ {n w : Nat} {v : Nat → Nat → Rat} {u y : Nat → Rat} : Ann (n + 1) w (ex v n u) y ↔ Ann n w v y ∧ dot u y w = 0 := by
  constructor
  · intro h
    refine ⟨fun i hi => ?_, ?_⟩
    · have := h i (by omega)
      rw [ex_lt v u hi] at this
      exact this
    · have := h n (by omega)
      rw [ex_same] at this
      exact this
  · intro h i hi
    by_cases e : i = n
    · subst e; rw [ex_same]; exact h.2
    · rw [ex_lt v u (by omega)]; exact h.1 i (by omega)
theorem ann_more {h w : Nat} {U : Nat → Nat → Rat} {y : Nat → Rat} : Ann (h + 1) w U y ↔ Ann h w U y ∧ dot (U h) y w = 0 := by
  constructor
  · intro z
    exact ⟨fun i hi => z i (by omega), z h (by omega)⟩
  · intro z i hi
    by_cases e : i = h
    · subst e; exact z.2
    · exact z.1 i (by omega)
/-! ### from the last row up -/
/-- rows that are done from t on: each with its lead, 0 ahead of it and at the leads behind -/
structure Done (t n w : Nat) (L : Nat → Nat) (z : Nat → Nat → Rat) : Prop where
  nz : ∀ k, t ≤ k → k < n → z k (L k) ≠ 0
  zb : ∀ k, t ≤ k → k < n → ∀ j, j < L k → z k j = 0
  zz : ∀ k, t ≤ k → k < n → ∀ i, k < i → i < n → z k (L i) = 0
theorem Done.rref {n w : Nat} {L : Nat → Nat} {z : Nat → Nat → Rat} (D : Done 0 n w L z) (lt : ∀ k, k < n → L k < w) (up : ∀ s t, s < t → t < n → L s < L t) : Rref n w (fun t j => z t j / z t (L t)) L where
  lt := lt
  up := up
  one := fun t ht => by
    have := D.nz t (Nat.zero_le _) ht
    grind
  off := fun s t hs ht ne => by
    have h0 : z s (L t) = 0 := by
      rcases Nat.lt_or_ge s t with h | h
      · exact D.zz s (Nat.zero_le _) hs t h ht
      · exact D.zb s (Nat.zero_le _) hs _ (up t s (by omega) hs)
    show z s (L t) / z s (L s) = 0
    rw [h0]
    grind
  zb := fun t ht j hj => by
    show z t j / z t (L t) = 0
    rw [D.zb t (Nat.zero_le _) ht j hj]
    grind
theorem dot_div {u y : Nat → Rat} {c : Rat} (hc : c ≠ 0) {w : Nat} : dot (fun j => u j / c) y w = 0 ↔ dot u y w = 0 := by
  have e : dot (fun j => u j / c) y w = dot (fun j => (1 / c) * (u j - 0 * (fun _ => (0 : Rat)) j)) y w := dot_congr (fun j _ => by grind) fun _ _ => rfl
  rw [e, dot_lin]
  constructor
  · intro h; grind
  · intro h; rw [h]; grind
end VM

set_option Elab.async false
set_option maxRecDepth 100000
namespace VM
open RQ
/-- leads sorted -/
theorem sorted_of {n : Nat} {l : Nat → Nat} (inj : ∀ i k, i < n → k < n → l i = l k → i = k) {ys : List Int} (hp : ys.Perm ((List.range n).map fun k => ((l k : Nat) : Int))) (hs : ys.Pairwise (· ≤ ·)) :
    ∃ L κ : Nat → Nat, ys = (List.range n).map (fun t => ((L t : Nat) : Int)) ∧ (∀ t, t < n → κ t < n ∧ l (κ t) = L t) ∧ (∀ s t, s < t → t < n → L s < L t) ∧ ∀ k, k < n → ∃ t, t < n ∧ κ t = k := by
  have len : ys.length = n := by rw [hp.length_eq, List.length_map, List.length_range]
  have nd : ys.Nodup := by
    refine hp.nodup_iff.mpr ?_
    rw [List.nodup_iff_pairwise_ne, List.pairwise_map]
    refine List.Pairwise.imp_of_mem ?_ (List.nodup_iff_pairwise_ne.mp List.nodup_range)
    intro a b ha hb ne e
    exact ne (inj a b (List.mem_range.mp ha) (List.mem_range.mp hb) (by omega))
  have at_ : ∀ t, t < n → ∃ k, k < n ∧ ys.getD t 0 = ((l k : Nat) : Int) := fun t ht => by
    have hm : ys.getD t 0 ∈ ys := by
      rw [List.getD_eq_getElem?_getD, List.getElem?_eq_getElem (by omega)]
      exact List.getElem_mem _
    obtain ⟨k, hk, e⟩ := List.mem_map.mp (hp.mem_iff.mp hm)
    exact ⟨k, List.mem_range.mp hk, e.symm⟩
  have ch : ∀ t, ∃ k, t < n → k < n ∧ ys.getD t 0 = ((l k : Nat) : Int) := fun t => by
    by_cases ht : t < n
    · obtain ⟨k, hk⟩ := at_ t ht
      exact ⟨k, fun _ => hk⟩
    · exact ⟨0, fun h => absurd h ht⟩
  obtain ⟨κ, hκ⟩ := Classical.axiomOfChoice ch
  have gL : ∀ t, t < n → ys[t]? = some ((l (κ t) : Nat) : Int) := fun t ht => by
    have := (hκ t ht).2
    rw [List.getD_eq_getElem?_getD, List.getElem?_eq_getElem (by omega)] at this
    rw [List.getElem?_eq_getElem (by omega)]
    exact congrArg some this
  refine ⟨fun t => l (κ t), κ, ?_, fun t ht => ⟨(hκ t ht).1, rfl⟩, fun s t hst ht => ?_, fun k hk => ?_⟩
  · refine List.ext_getElem? fun t => ?_
    by_cases ht : t < n
    · rw [gL t ht, List.getElem?_map, List.getElem?_range ht]
      rfl
    · rw [List.getElem?_eq_none (by omega), List.getElem?_eq_none (by rw [List.length_map, List.length_range]; omega)]
  · have h1 := List.pairwise_iff_getElem.mp hs s t (by omega) (by omega) hst
    have h2 := List.pairwise_iff_getElem.mp (List.nodup_iff_pairwise_ne.mp nd) s t (by omega) (by omega) hst
    have e1 := (List.getElem?_eq_some_iff.mp (gL s (by omega))).2
    have e2 := (List.getElem?_eq_some_iff.mp (gL t ht)).2
    rw [e1, e2] at h1 h2
    show l (κ s) < l (κ t)
    omega
  · have hm : ((l k : Nat) : Int) ∈ ys := hp.mem_iff.mpr (List.mem_map.mpr ⟨k, List.mem_range.mpr hk, rfl⟩)
    obtain ⟨t, ht, e⟩ := List.mem_iff_getElem.mp hm
    have htn : t < n := by omega
    have e2 := (List.getElem?_eq_some_iff.mp (gL t htn)).2
    refine ⟨t, htn, inj _ _ (hκ t htn).1 hk ?_⟩
    rw [e] at e2
    omega
/-- done rows turned about are a table in reduced form -/
theorem Ech.rref {n w : Nat} {L : Nat → Nat} {z : Nat → Nat → Rat} (E : Ech n w (fun j => L (n - 1 - j)) z) (up : ∀ s t, s < t → t < n → L s < L t) :
    Rref n w (fun t j => z (n - 1 - t) j / z (n - 1 - t) (L t)) L := by
  have back : ∀ t, t < n → n - 1 - (n - 1 - t) = t := fun t h => by omega
  have nz : ∀ t, t < n → z (n - 1 - t) (L t) ≠ 0 := fun t ht => by
    have := E.nz (n - 1 - t) (by omega)
    simp only [back t ht] at this
    exact this
  have zb : ∀ t, t < n → ∀ j, j < L t → z (n - 1 - t) j = 0 := fun t ht j hj => by
    refine E.zb (n - 1 - t) (by omega) j ?_
    simp only [back t ht]
    exact hj
  refine ⟨fun t ht => ?_, up, fun t ht => ?_, fun s t hs ht ne => ?_, fun t ht j hj => ?_⟩
  · have := E.lt (n - 1 - t) (by omega)
    simp only [back t ht] at this
    exact this
  · have := nz t ht
    grind
  · have h0 : z (n - 1 - s) (L t) = 0 := by
      rcases Nat.lt_or_ge s t with h | h
      · have := E.zz (n - 1 - s) (by omega) (n - 1 - t) (by omega)
        simp only [back t ht] at this
        exact this
      · exact zb s hs _ (up t s (by omega) hs)
    show z (n - 1 - s) (L t) / z (n - 1 - s) (L s) = 0
    rw [h0]
    grind
  · show z (n - 1 - t) j / z (n - 1 - t) (L t) = 0
    rw [zb t ht j hj]
    grind
/-- a place by another one of the same row: sizes -/
theorem div_bt {M : Nat → Int} {m b w l j : Nat} {u : Nat → Rat} (hu : VB M b w u) (k : MB M m w) (hl : l < w) (hj : j < w) (u0 : u l ≠ 0) : Bt (b + m) (u j / u l).num ∧ Bt (b + m) ((u j / u l).den : Int) := by
  have e1 := nd (u j)
  have e2 := nd (u l)
  have d1 := den0 (u j)
  have d2 := den0 (u l)
  have n2 : (u l).num ≠ 0 := fun z => u0 (num0.mp z)
  have p1 : ((u j).den : Int) ≠ 0 := by have := (u j).den_pos; omega
  have p2 : ((u l).den : Int) ≠ 0 := by have := (u l).den_pos; omega
  have e : (((u j).num * ((u l).den : Int) : Int) : Rat) = u j / u l * (((((u j).den : Int) * (u l).num) : Int) : Rat) := by
    rw [Rat.intCast_mul, Rat.intCast_mul, e1, e2]
    grind
  obtain ⟨q1, q2⟩ := den_dvd (Int.mul_ne_zero p1 n2) e
  refine ⟨?_, dvd_bt q1 (Int.mul_ne_zero p1 n2) (((hu.den k hj).mul (hu.n l hl)).up (by omega))⟩
  by_cases z : (u j).num = 0
  · have : u j / u l = 0 := by rw [num0.mp z]; grind
    rw [this]
    exact Nat.two_pow_pos _
  · exact dvd_bt q2 (Int.mul_ne_zero z p2) ((hu.n j hj).mul (hu.den k hl))
end VM

set_option Elab.async false
set_option maxRecDepth 100000
namespace VM
open RQ
/-- all but two of the products are 0 -/
theorem dot_two {u y : Nat → Rat} {a b : Nat} (ne : a ≠ b) : ∀ {w : Nat}, a < w → b < w → (∀ j, j < w → j ≠ a → j ≠ b → u j * y j = 0) → dot u y w = u a * y a + u b * y b
  | 0, h, _, _ => absurd h (by omega)
  | w + 1, h1, h2, z => by
    unfold dot
    by_cases ea : a = w
    · subst ea
      rw [dot_one (k := b) (by omega) fun j hj n => z j (by omega) (by omega) n]
      grind
    · by_cases eb : b = w
      · subst eb
        rw [dot_one (k := a) (by omega) fun j hj n => z j (by omega) n (by omega)]
      · rw [dot_two ne (w := w) (by omega) (by omega) fun j hj n1 n2 => z j (by omega) n1 n2, z w (by omega) (fun e => ea e.symm) (fun e => eb e.symm)]
        grind
/-- a column without a lead: what is 0 on all rows, 1 there, and else not 0 at leads of lower columns alone -/
theorem free_col {r w : Nat} {F : Nat → Nat → Rat} {L : Nat → Nat} (E : Rref r w F L) {q : Nat} (hq : q < w) (no : ∀ t, t < r → L t ≠ q) :
    ∃ y : Nat → Rat, y q = 1 ∧ (∀ j, q < j → y j = 0) ∧ (∀ t, t < r → y (L t) = - F t q) ∧ Ann r w F y := by
  have inj : ∀ s t, s < r → t < r → L s = L t → s = t := fun s t hs ht e => by
    rcases Nat.lt_trichotomy s t with h | h | h
    · have := E.up s t h ht; omega
    · exact h
    · have := E.up t s h hs; omega
  have ch : ∀ j, ∃ v : Rat, (j = q → v = 1) ∧ (∀ t, t < r → L t = j → v = - F t q) ∧ (j ≠ q → (∀ t, t < r → L t ≠ j) → v = 0) := fun j => by
    by_cases e : j = q
    · exact ⟨1, fun _ => rfl, fun t ht h => absurd (h.trans e) (no t ht), fun n => absurd e n⟩
    · by_cases h : ∃ t, t < r ∧ L t = j
      · obtain ⟨t, ht, et⟩ := h
        exact ⟨- F t q, fun z => absurd z e, fun s hs es => by rw [inj s t hs ht (by omega)], fun _ z => absurd et (z t ht)⟩
      · exact ⟨0, fun z => absurd z e, fun t ht et => absurd ⟨t, ht, et⟩ h, fun _ _ => rfl⟩
  obtain ⟨y, hy⟩ := Classical.axiomOfChoice ch
  have yL : ∀ t, t < r → y (L t) = - F t q := fun t ht => (hy (L t)).2.1 t ht rfl
  have yq : y q = 1 := (hy q).1 rfl
  refine ⟨y, yq, fun j hj => ?_, yL, fun s hs => ?_⟩
  · by_cases h : ∃ t, t < r ∧ L t = j
    · obtain ⟨t, ht, et⟩ := h
      rw [← et, yL t ht, E.zb t ht q (by omega)]
      grind
    · exact (hy j).2.2 (by omega) fun t ht et => h ⟨t, ht, et⟩
  · rw [dot_two (a := q) (b := L s) (fun e => no s hs e.symm) hq (E.lt s hs) fun j hj n1 n2 => ?_]
    · rw [yq, yL s hs, E.one s hs]
      grind
    · by_cases h : ∃ t, t < r ∧ L t = j
      · obtain ⟨t, ht, et⟩ := h
        have : s ≠ t := fun e => n2 (by rw [← et, e])
        rw [← et, E.off s t hs ht this]
        grind
      · rw [(hy j).2.2 n1 fun t ht et => h ⟨t, ht, et⟩]
        grind
/-- the rows beside one another, with what is wanted -/
def aug (r : Nat) (U : Nat → Nat → Rat) (b : Nat → Rat) (i j : Nat) : Rat := if j < r then U j i else b i
def Indep (r w : Nat) (U : Nat → Nat → Rat) : Prop := ∀ y : Nat → Rat, (∀ i, i < w → dot (fun k => U k i) y r = 0) → ∀ k, k < r → y k = 0
def Solves (r w : Nat) (U : Nat → Nat → Rat) (b x : Nat → Rat) : Prop := ∀ i, i < w → dot (fun k => U k i) x r = b i
theorem dot_aug {r i : Nat} {U : Nat → Nat → Rat} {b y : Nat → Rat} : dot (aug r U b i) y (r + 1) = dot (fun k => U k i) y r + b i * y r := by
  show dot (aug r U b i) y r + aug r U b i r * y r = _
  rw [dot_congr (u := aug r U b i) (u' := fun k => U k i) (y' := y) (fun j hj => by unfold aug; rw [if_pos hj]) fun _ _ => rfl]
  unfold aug
  rw [if_neg (Nat.lt_irrefl r)]
section
variable {c r w : Nat} {F U : Nat → Nat → Rat} {L : Nat → Nat} {b : Nat → Rat}
theorem lead_all (E : Rref c (r + 1) F L) (an : ∀ y, Ann c (r + 1) F y ↔ Ann w (r + 1) (aug r U b) y) (ind : Indep r w U) {q : Nat} (hq : q < r) : ∃ t, t < c ∧ L t = q := by
  refine Classical.byContradiction fun no => ?_
  obtain ⟨y, y1, y2, _, y4⟩ := free_col E (q := q) (by omega) fun t ht e => no ⟨t, ht, e⟩
  have := ind y (fun i hi => by
    have h := (an y).mp y4 i hi
    rw [dot_aug, y2 r hq] at h
    grind) q hq
  rw [y1] at this
  exact absurd this (by decide)
theorem lead_id (E : Rref c (r + 1) F L) (all : ∀ q, q < r → ∃ t, t < c ∧ L t = q) : ∀ t, t < r → t < c ∧ L t = t := by
  have ge : ∀ t, t < c → t ≤ L t := fun t => by
    induction t with
    | zero => intro _; exact Nat.zero_le _
    | succ t ih =>
      intro h
      have := ih (by omega)
      have := E.up t (t + 1) (by omega) h
      omega
  intro t
  induction t using Nat.strongRecOn with
  | ind t ih =>
    intro ht
    obtain ⟨s, hs, e⟩ := all t ht
    have h1 := ge s hs
    by_cases lt : s < t
    · have := (ih s lt (by omega)).2
      omega
    · have : s = t := by omega
      subst this
      exact ⟨hs, e⟩
/-- the rows of what reduced gives: 1 at their place, 0 at the others ahead of the last -/
theorem solve_row (E : Rref c (r + 1) F L) (id : ∀ t, t < r → t < c ∧ L t = t) {s : Nat} (hs : s < r) (x : Nat → Rat) : dot (F s) (fun j => if j < r then x j else -1) (r + 1) = x s - F s r := by
  have hsc := (id s hs).1
  have e1 : F s s = 1 := by
    have := E.one s hsc
    rw [(id s hs).2] at this
    exact this
  rw [dot_two (a := s) (b := r) (by omega) (by omega) (by omega) fun j hj n1 n2 => ?_]
  · simp only [if_pos hs, if_neg (Nat.lt_irrefl r), e1]
    grind
  · have hj2 : j < r := by omega
    have := E.off s j hsc (id j hj2).1 (fun e => n1 e.symm)
    rw [(id j hj2).2] at this
    rw [this]
    grind
theorem solve_yes (E : Rref c (r + 1) F L) (an : ∀ y, Ann c (r + 1) F y ↔ Ann w (r + 1) (aug r U b) y) (ind : Indep r w U) {x : Nat → Rat} (hx : Solves r w U b x) : c = r ∧ ∀ t, t < r → F t r = x t := by
  have id := lead_id E fun q hq => lead_all E an ind hq
  have A : Ann c (r + 1) F (fun j => if j < r then x j else -1) := (an _).mpr fun i hi => by
    rw [dot_aug, dot_congr (u' := fun k => U k i) (y' := x) (fun _ _ => rfl) (fun j hj => if_pos hj), hx i hi, if_neg (Nat.lt_irrefl r)]
    grind
  have ge : r ≤ c := by
    by_cases z : r = 0
    · omega
    · have := (id (r - 1) (by omega)).1
      omega
  refine ⟨?_, fun t ht => ?_⟩
  · refine Nat.le_antisymm (Nat.le_of_not_lt fun lt => ?_) ge
    have hl : L r = r := by
      have h1 := E.lt r lt
      by_cases z : r = 0
      · omega
      · have h2 := E.up (r - 1) r (by omega) lt
        rw [(id (r - 1) (by omega)).2] at h2
        omega
    have h := A r lt
    rw [dot_one (k := r) (by omega) fun j hj n => ?_] at h
    · have e1 := E.one r lt
      rw [hl] at e1
      simp only [if_neg (Nat.lt_irrefl r), e1] at h
      grind
    · rw [E.zb r lt j (by omega)]
      grind
  · have h := A t (id t ht).1
    rw [solve_row E id ht] at h
    grind
theorem solve_no (E : Rref c (r + 1) F L) (an : ∀ y, Ann c (r + 1) F y ↔ Ann w (r + 1) (aug r U b) y) (ind : Indep r w U) (no : ∀ x, ¬ Solves r w U b x) : r < c := by
  have id := lead_id E fun q hq => lead_all E an ind hq
  have ge : r ≤ c := by
    by_cases z : r = 0
    · omega
    · have := (id (r - 1) (by omega)).1
      omega
  refine Nat.lt_of_le_of_ne ge fun e => no (fun t => F t r) fun i hi => ?_
  subst e
  have A : Ann r (r + 1) F (fun j => if j < r then F j r else -1) := fun s hs => by
    rw [solve_row (x := fun j => F j r) E id hs]
    grind
  have h := (an _).mp A i hi
  rw [dot_aug, dot_congr (u' := fun k => U k i) (y' := fun t => F t r) (fun _ _ => rfl) (fun j hj => if_pos hj), if_neg (Nat.lt_irrefl r)] at h
  grind
end
end VM

set_option Elab.async false
set_option maxRecDepth 100000
namespace VM
open RQ
/-- a number over M, its top of at most T bits -/
def Ov (M : Int) (T : Nat) (q : Rat) : Prop := ∃ z : Int, (z : Rat) = q * (M : Rat) ∧ Bt T z
theorem Ov.up {M : Int} {S T : Nat} {q : Rat} (h : Ov M S q) (l : S ≤ T) : Ov M T q := let ⟨z, e, b⟩ := h; ⟨z, e, b.up l⟩
theorem bt0 (T : Nat) : Bt T 0 := Nat.two_pow_pos _
theorem Ov.den {M : Int} {T : Nat} {q : Rat} (h : Ov M T q) (m : M ≠ 0) : (q.den : Int) ∣ M ∧ Bt T q.num := by
  obtain ⟨z, e, b⟩ := h
  obtain ⟨d1, d2⟩ := den_dvd m e
  refine ⟨d1, ?_⟩
  by_cases z0 : z = 0
  · have q0 : q = 0 := by
      have m0 := i0 m
      rw [z0] at e
      have e0 : ((0 : Int) : Rat) = 0 := rfl
      rw [e0] at e
      grind
    rw [q0]
    exact bt0 T
  · exact dvd_bt d2 z0 b
theorem Ov.add {M : Int} {T : Nat} {p q : Rat} (h : Ov M T p) (k : Ov M T q) : Ov M (T + 1) (p + q) := by
  obtain ⟨z, e, b⟩ := h
  obtain ⟨y, f, c⟩ := k
  exact ⟨z + y, by rw [Rat.intCast_add, e, f]; grind, b.add c⟩
theorem Ov.mul {M N : Int} {S T : Nat} {p q : Rat} (h : Ov M S p) (k : Ov N T q) : Ov (M * N) (S + T) (p * q) := by
  obtain ⟨z, e, b⟩ := h
  obtain ⟨y, f, c⟩ := k
  exact ⟨z * y, by rw [Rat.intCast_mul, Rat.intCast_mul, e, f]; grind, b.mul c⟩
theorem Ov.lift {M N : Int} {S T : Nat} {p : Rat} (h : Ov M S p) (b : Bt T N) : Ov (M * N) (S + T) p := by
  obtain ⟨z, e, c⟩ := h
  exact ⟨z * N, by rw [Rat.intCast_mul, Rat.intCast_mul, e]; grind, c.mul b⟩
theorem Ov.zero (M : Int) (T : Nat) : Ov M T 0 := ⟨0, by rw [Rat.zero_mul]; rfl, bt0 T⟩
theorem Ov.one {M : Int} {T : Nat} (b : Bt T M) : Ov M T 1 := ⟨M, by grind, b⟩
theorem Ov.self {T : Nat} {q : Rat} (b : Bt T q.num) : Ov (q.den : Int) T q := ⟨q.num, nd q, b⟩
theorem Ov.comm {M N : Int} {T : Nat} {q : Rat} (h : Ov (M * N) T q) : Ov (N * M) T q := by rw [Int.mul_comm]; exact h
theorem den_ne (q : Rat) : (q.den : Int) ≠ 0 := by have := q.den_pos; omega
theorem Ov.vb {M : Int} {T w : Nat} {u : Nat → Rat} (m : M ≠ 0) (h : ∀ j, j < w → Ov M T (u j)) : VB (fun _ => M) T w u := ⟨fun j hj => ((h j hj).den m).1, fun j hj => ((h j hj).den m).2⟩
/-- numbers times rows, added up -/
theorem Ov.dot {M : Int} {T : Nat} {u y : Nat → Rat} : ∀ {w : Nat}, (∀ j, j < w → Ov M T (u j * y j)) → Ov M (T + w) (dot u y w)
  | 0, _ => Ov.zero M _
  | w + 1, h => by
    have i := Ov.dot (w := w) fun j hj => h j (by omega)
    exact i.add ((h w (by omega)).up (by omega))
/-! ### sums of rows -/
theorem dot_add {u y z : Nat → Rat} : ∀ {w : Nat}, dot u (fun k => y k + z k) w = dot u y w + dot u z w
  | 0 => by unfold dot; grind
  | w + 1 => by
    unfold dot
    rw [dot_add]
    grind
theorem dot_mul {u y : Nat → Rat} {c : Rat} : ∀ {w : Nat}, dot u (fun k => c * y k) w = c * dot u y w
  | 0 => by unfold dot; grind
  | w + 1 => by
    unfold dot
    rw [dot_mul]
    grind
theorem dot_comm {u y : Nat → Rat} : ∀ {w : Nat}, dot u y w = dot y u w
  | 0 => rfl
  | w + 1 => by
    unfold dot
    rw [dot_comm]
    grind
/-- a sum of sums, the other way about -/
theorem dot_swap {x y : Nat → Rat} {B : Nat → Nat → Rat} {p : Nat} : ∀ {r : Nat}, dot x (fun k => dot (B k) y p) r = dot (fun t => dot x (fun k => B k t) r) y p
  | 0 => by
    rw [show dot x (fun k => dot (B k) y p) 0 = 0 from rfl]
    exact (dot_zero fun j _ => by show dot x (fun k => B k j) 0 * y j = 0; rw [show dot x (fun k => B k j) 0 = 0 from rfl]; grind).symm
  | r + 1 => by
    show dot x (fun k => dot (B k) y p) r + x r * dot (B r) y p = _
    rw [dot_swap]
    have e : dot (fun t => dot x (fun k => B k t) (r + 1)) y p = dot (fun t => 1 * (dot x (fun k => B k t) r - (- x r) * B r t)) y p := dot_congr (fun j _ => by show dot x (fun k => B k j) r + x r * B r j = _; grind) fun _ _ => rfl
    rw [e, dot_lin]
    grind
/-- v is the sum of the basis by its numbers at the leads -/
def InSp (p w : Nat) (L : Nat → Nat) (B : Nat → Nat → Rat) (v : Nat → Rat) : Prop := ∀ i, i < w → v i = dot (fun t => v (L t)) (fun t => B t i) p
theorem insp_dot {p w n : Nat} {L : Nat → Nat} {B V : Nat → Nat → Rat} {x : Nat → Rat} (hL : ∀ t, t < p → L t < w) (h : ∀ k, k < n → InSp p w L B (V k)) : InSp p w L B (fun i => dot x (fun k => V k i) n) := fun i hi => by
  show dot x (fun k => V k i) n = dot (fun t => dot x (fun k => V k (L t)) n) (fun t => B t i) p
  rw [← dot_swap (B := fun k t => V k (L t))]
  exact dot_congr (fun _ _ => rfl) fun k hk => by
    exact h k hk i hi
theorem insp_basis {p w : Nat} {L : Nat → Nat} {B : Nat → Nat → Rat} (E : Rref p w B L) {k : Nat} (hk : k < p) : InSp p w L B (B k) := fun i hi => by
  rw [dot_one (k := k) hk fun j hj n => by rw [E.off k j hk hj (fun e => n e.symm)]; grind]
  rw [E.one k hk]
  grind
/-- rows of a triangle over the leads are independent, in any order -/
theorem indep_tri {p w : Nat} {L σ : Nat → Nat} {V : Nat → Nat → Rat} (hL : ∀ t, t < p → L t < w) (up : ∀ k j, k < p → j < p → k < j → V k (L j) = 0) (di : ∀ k, k < p → V k (L k) ≠ 0)
    (s1 : ∀ k, k < p → σ k < p) (s2 : ∀ k j, k < p → j < p → σ k = σ j → k = j) : Indep p w (fun k => V (σ k)) := by
  intro y h
  have key : ∀ d m, d + m = p → ∀ k, k < p → m ≤ σ k → y k = 0 := by
    intro d
    induction d with
    | zero => intro m e k hk l; have := s1 k hk; omega
    | succ d ih =>
      intro m e k hk l
      by_cases lt : m + 1 ≤ σ k
      · exact ih (m + 1) (by omega) k hk lt
      · have em : σ k = m := by omega
        have z := h (L m) (hL m (by omega))
        rw [dot_one (k := k) hk fun j hj n => ?_] at z
        · have := di m (by omega)
          have z : V (σ k) (L m) * y k = 0 := z
          rw [em] at z
          grind
        · show V (σ j) (L m) * y j = 0
          rcases Nat.lt_trichotomy (σ j) m with q | q | q
          · rw [up (σ j) m (s1 j hj) (by omega) q]
            grind
          · exact absurd (s2 j k hj hk (by omega)) n
          · rw [ih (m + 1) (by omega) j hj (by omega)]
            grind
  intro k hk
  exact key p 0 (by omega) k hk (Nat.zero_le _)
end VM

set_option Elab.async false
set_option maxRecDepth 100000
/-! machines in plain Lean: rows, columns, tables and numbers of words; sums over two blocks, over pairs of places -/
namespace VN
open RQ VM
section
variable (n : Nat) (M : Nat → Nat → Nat → Rat)
/-- the row r, then the steps of the letters -/
def row : (Nat → Rat) → List Nat → Nat → Rat
  | r, [] => r
  | r, x :: w => row (fun j => dot r (fun i => M x i j) n) w
/-- the steps of the letters, then the column c -/
def col (c : Nat → Rat) : List Nat → Nat → Rat
  | [] => c
  | x :: w => fun i => dot (M x i) (col c w) n
def unit : Nat → Nat → Rat := fun i j => if i = j then 1 else 0
/-- the product of the steps of the letters, from the first one on -/
def tab (w : List Nat) : Nat → Nat → Rat := fun i => row n M (unit i) w
end
variable {n : Nat} {M : Nat → Nat → Nat → Rat}
theorem row_append : ∀ {u v : List Nat} {r : Nat → Rat}, row n M r (u ++ v) = row n M (row n M r u) v
  | [], _, _ => rfl
  | x :: u, v, r => row_append (u := u)
theorem col_append {c : Nat → Rat} : ∀ {u v : List Nat}, col n M c (u ++ v) = col n M (col n M c v) u
  | [], _ => rfl
  | x :: u, v => by
    show (fun i => dot (M x i) (col n M c (u ++ v)) n) = fun i => dot (M x i) (col n M (col n M c v) u) n
    rw [col_append]
theorem row_congr : ∀ {w : List Nat} {r r' : Nat → Rat}, (∀ j, j < n → r j = r' j) → ∀ j, j < n → row n M r w j = row n M r' w j
  | [], _, _, h => h
  | x :: w, r, r', h => row_congr (w := w) fun j hj => dot_congr h fun _ _ => rfl
theorem col_congr : ∀ {w : List Nat} {c c' : Nat → Rat}, (∀ j, j < n → c j = c' j) → ∀ j, j < n → col n M c w j = col n M c' w j
  | [], _, _, h => h
  | x :: w, c, c', h => fun j hj => dot_congr (fun _ _ => rfl) fun k hk => col_congr (w := w) h k hk
/-- the number from the left and from the right -/
theorem meet {c : Nat → Rat} : ∀ {w : List Nat} {r : Nat → Rat}, dot (row n M r w) c n = dot r (col n M c w) n
  | [], _ => rfl
  | x :: w, r => by
    show dot (row n M (fun j => dot r (fun i => M x i j) n) w) c n = dot r (fun i => dot (M x i) (col n M c w) n) n
    rw [meet (w := w), dot_swap]
/-- the number of u followed by v is the row of u with the column of v -/
theorem meet_append {r c : Nat → Rat} {u v : List Nat} : dot (row n M r (u ++ v)) c n = dot (row n M r u) (col n M c v) n := by
  rw [row_append]
  exact meet
theorem unit_dot {y : Nat → Rat} {i : Nat} (h : i < n) : dot (unit i) y n = y i := by
  rw [dot_one (k := i) h fun j _ ne => by unfold unit; rw [if_neg (Ne.symm ne), Rat.zero_mul]]
  unfold unit
  rw [if_pos rfl, Rat.one_mul]
theorem dot_unit {y : Nat → Rat} {j : Nat} (h : j < n) : dot y (fun i => unit i j) n = y j := by
  rw [dot_one (k := j) h fun i _ ne => by unfold unit; rw [if_neg ne, Rat.mul_zero]]
  unfold unit
  rw [if_pos rfl, Rat.mul_one]
/-- a row of the table -/
theorem row_tab {j : Nat} (hj : j < n) : ∀ {w : List Nat} {r : Nat → Rat}, row n M r w j = dot r (fun i => tab n M w i j) n := by
  intro w
  have at_end : ∀ (r : Nat → Rat), row n M r w j = dot (row n M r w) (fun i => unit i j) n := fun r => (dot_unit hj).symm
  intro r
  rw [at_end r, meet]
  refine dot_congr (fun _ _ => rfl) fun i hi => ?_
  show col n M (fun i => unit i j) w i = row n M (unit i) w j
  rw [at_end (unit i), meet, unit_dot hi]
theorem col_tab {c : Nat → Rat} {w : List Nat} {i : Nat} (hi : i < n) : col n M c w i = dot (tab n M w i) c n := by
  show _ = dot (row n M (unit i) w) c n
  rw [meet, unit_dot hi]
theorem tab_append {u v : List Nat} {i j : Nat} (hj : j < n) : tab n M (u ++ v) i j = dot (tab n M u i) (fun k => tab n M v k j) n := by
  show row n M (unit i) (u ++ v) j = _
  rw [row_append]
  exact row_tab hj
/-! ### sums in two blocks, over pairs -/
theorem dot_two {u y : Nat → Rat} {a : Nat} : ∀ {b : Nat}, dot u y (a + b) = dot u y a + dot (fun i => u (a + i)) (fun i => y (a + i)) b
  | 0 => by
    show dot u y a = dot u y a + 0
    grind
  | b + 1 => by
    show dot u y (a + b) + u (a + b) * y (a + b) = dot u y a + (dot (fun i => u (a + i)) (fun i => y (a + i)) b + u (a + b) * y (a + b))
    rw [dot_two (b := b)]
    grind
theorem dot_scale {u y : Nat → Rat} {c : Rat} : ∀ {w : Nat}, dot (fun k => c * u k) y w = c * dot u y w
  | 0 => by unfold dot; grind
  | w + 1 => by
    unfold dot
    rw [dot_scale]
    grind
/-- the first index counts in steps of b -/
theorem dot_pairs {u y v z : Nat → Rat} {b : Nat} (hb : 0 < b) : ∀ {a : Nat}, dot (fun t => u (t / b) * v (t % b)) (fun t => y (t / b) * z (t % b)) (a * b) = dot u y a * dot v z b
  | 0 => by
    rw [Nat.zero_mul]
    unfold dot
    grind
  | a + 1 => by
    rw [Nat.succ_mul, dot_two, dot_pairs hb (a := a)]
    have e : dot (fun i => u ((a * b + i) / b) * v ((a * b + i) % b)) (fun i => y ((a * b + i) / b) * z ((a * b + i) % b)) b = u a * y a * dot v z b := by
      have d : ∀ i, i < b → (a * b + i) / b = a ∧ (a * b + i) % b = i := fun i hi => by
        rw [Nat.mul_comm]
        refine ⟨?_, ?_⟩
        · rw [Nat.mul_add_div hb, Nat.div_eq_of_lt hi, Nat.add_zero]
        · rw [Nat.mul_add_mod, Nat.mod_eq_of_lt hi]
      have e1 : dot (fun i => u ((a * b + i) / b) * v ((a * b + i) % b)) (fun i => y ((a * b + i) / b) * z ((a * b + i) % b)) b = dot (fun i => u a * v i) (fun i => y a * z i) b :=
        dot_congr (fun i hi => by rw [(d i hi).1, (d i hi).2]) fun i hi => by rw [(d i hi).1, (d i hi).2]
      rw [e1, dot_scale, dot_mul]
      grind
    rw [e]
    show _ = (dot u y a + u a * y a) * dot v z b
    grind
/-! ### machines in two blocks -/
theorem row_add : ∀ {w : List Nat} {r s : Nat → Rat}, row n M (fun j => r j + s j) w = fun j => row n M r w j + row n M s w j
  | [], _, _ => rfl
  | x :: w, r, s => by
    show row n M (fun j => dot (fun i => r i + s i) (fun i => M x i j) n) w = fun j => row n M (fun j => dot r (fun i => M x i j) n) w j + row n M (fun j => dot s (fun i => M x i j) n) w j
    rw [← row_add (w := w)]
    congr 1
    funext j
    rw [dot_comm, dot_add, dot_comm, dot_comm (u := fun i => M x i j) (y := s)]
theorem row_scale {c : Rat} : ∀ {w : List Nat} {r : Nat → Rat}, row n M (fun j => c * r j) w = fun j => c * row n M r w j
  | [], _ => rfl
  | x :: w, r => by
    show row n M (fun j => dot (fun i => c * r i) (fun i => M x i j) n) w = fun j => c * row n M (fun j => dot r (fun i => M x i j) n) w j
    rw [← row_scale (w := w)]
    congr 1
    funext j
    exact dot_scale
theorem col_add : ∀ {w : List Nat} {c d : Nat → Rat}, col n M (fun j => c j + d j) w = fun j => col n M c w j + col n M d w j
  | [], _, _ => rfl
  | x :: w, c, d => by
    show (fun i => dot (M x i) (col n M (fun j => c j + d j) w) n) = fun i => dot (M x i) (col n M c w) n + dot (M x i) (col n M d w) n
    rw [col_add (w := w)]
    funext i
    exact dot_add
theorem col_scale {c : Rat} : ∀ {w : List Nat} {d : Nat → Rat}, col n M (fun j => c * d j) w = fun j => c * col n M d w j
  | [], _ => rfl
  | x :: w, d => by
    show (fun i => dot (M x i) (col n M (fun j => c * d j) w) n) = fun i => c * dot (M x i) (col n M d w) n
    rw [col_scale (w := w)]
    funext i
    exact dot_mul
/-- the step C has A above on the left, B below on the right, U above on the right, and 0 below on the left -/
structure Tri (a b : Nat) (A B U C : Nat → Nat → Nat → Rat) : Prop where
  ul : ∀ x i j, i < a → j < a → C x i j = A x i j
  ur : ∀ x i j, i < a → j < b → C x i (a + j) = U x i j
  ll : ∀ x i j, i < b → j < a → C x (a + i) j = 0
  lr : ∀ x i j, i < b → j < b → C x (a + i) (a + j) = B x i j
section
variable {a b : Nat} {A B U C : Nat → Nat → Nat → Rat}
theorem Tri.left (t : Tri a b A B U C) : ∀ {w : List Nat} {r : Nat → Rat} {j : Nat}, j < a → row (a + b) C r w j = row a A r w j
  | [], _, _, _ => rfl
  | x :: w, r, j, hj => by
    show row (a + b) C (fun j => dot r (fun i => C x i j) (a + b)) w j = row a A (fun j => dot r (fun i => A x i j) a) w j
    rw [t.left (w := w) hj]
    refine row_congr (fun l hl => ?_) j hj
    show dot r (fun i => C x i l) (a + b) = dot r (fun i => A x i l) a
    rw [dot_two, dot_congr (w := a) (fun _ _ => rfl) (fun i hi => t.ul x i l hi hl), dot_zero (w := b) fun i hi => by rw [t.ll x i l hi hl, Rat.mul_zero]]
    grind
theorem Tri.low (t : Tri a b A B U C) {c : Nat → Rat} : ∀ {w : List Nat} {i : Nat}, i < b → col (a + b) C c w (a + i) = col b B (fun i => c (a + i)) w i
  | [], _, _ => rfl
  | x :: w, i, hi => by
    show dot (C x (a + i)) (col (a + b) C c w) (a + b) = dot (B x i) (col b B (fun i => c (a + i)) w) b
    rw [dot_two, dot_zero (w := a) fun j hj => by rw [t.ll x i j hi hj, Rat.zero_mul]]
    rw [dot_congr (w := b) (fun j hj => t.lr x i j hi hj) fun j hj => t.low (w := w) hj]
    grind
/-- all ways to part a word at a letter -/
def cuts : List Nat → List (List Nat × Nat × List Nat)
  | [] => []
  | x :: w => ([], x, w) :: (cuts w).map fun q => (x :: q.1, q.2)
def total {α : Type} (f : α → Rat) : List α → Rat
  | [] => 0
  | q :: l => f q + total f l
theorem total_map {α β : Type} {f : β → Rat} {g : α → β} : ∀ {l : List α}, total f (l.map g) = total (fun q => f (g q)) l
  | [] => rfl
  | q :: l => by
    show f (g q) + total f (l.map g) = f (g q) + total (fun q => f (g q)) l
    rw [total_map]
theorem total_congr {α : Type} {f g : α → Rat} : ∀ {l : List α}, (∀ q, q ∈ l → f q = g q) → total f l = total g l
  | [], _ => rfl
  | q :: l, h => by
    show f q + total f l = g q + total g l
    rw [h q List.mem_cons_self, total_congr fun p hp => h p (List.mem_cons_of_mem _ hp)]
/-- the right block of a row: what stood there goes on, and at each letter something comes over -/
theorem Tri.right (t : Tri a b A B U C) : ∀ {w : List Nat} {r : Nat → Rat} {j : Nat}, j < b → row (a + b) C r w (a + j) = row b B (fun i => r (a + i)) w j + total (fun q => row b B (fun l => dot (row a A r q.1) (fun i => U q.2.1 i l) a) q.2.2 j) (cuts w)
  | [], r, j, _ => by
    show r (a + j) = r (a + j) + 0
    grind
  | x :: w, r, j, hj => by
    show row (a + b) C (fun j => dot r (fun i => C x i j) (a + b)) w (a + j) = _
    rw [t.right (w := w) hj]
    have e1 : ∀ l, l < b → dot r (fun i => C x i (a + l)) (a + b) = dot r (fun i => U x i l) a + dot (fun i => r (a + i)) (fun i => B x i l) b := fun l hl => by
      rw [dot_two, dot_congr (w := a) (fun _ _ => rfl) (fun i hi => t.ur x i l hi hl), dot_congr (w := b) (fun _ _ => rfl) (fun i hi => t.lr x i l hi hl)]
    have e2 : row b B (fun l => dot r (fun i => C x i (a + l)) (a + b)) w j = row b B (fun l => dot r (fun i => U x i l) a) w j + row b B (fun l => dot (fun i => r (a + i)) (fun i => B x i l) b) w j := by
      rw [row_congr e1 j hj, row_add]
    have e3 : total (fun q => row b B (fun l => dot (row a A (fun j => dot r (fun i => C x i j) (a + b)) q.1) (fun i => U q.2.1 i l) a) q.2.2 j) (cuts w) = total (fun q => row b B (fun l => dot (row a A r (x :: q.1)) (fun i => U q.2.1 i l) a) q.2.2 j) (cuts w) :=
      total_congr fun q _ => row_congr (fun l hl => dot_congr (fun i hi => by
        show row a A (fun j => dot r (fun i => C x i j) (a + b)) q.1 i = row a A (fun j => dot r (fun i => A x i j) a) q.1 i
        refine row_congr (fun m hm => ?_) i hi
        show dot r (fun i => C x i m) (a + b) = dot r (fun i => A x i m) a
        rw [dot_two, dot_congr (w := a) (fun _ _ => rfl) (fun i hi => t.ul x i m hi hm), dot_zero (w := b) fun i hi => by rw [t.ll x i m hi hm, Rat.mul_zero]]
        grind) fun _ _ => rfl) j hj
    rw [e2, e3]
    show _ = row b B (fun l => dot (fun i => r (a + i)) (fun i => B x i l) b) w j + (row b B (fun l => dot r (fun i => U x i l) a) w j + total (fun q => row b B (fun l => dot (row a A r q.1) (fun i => U q.2.1 i l) a) q.2.2 j) ((cuts w).map fun q => (x :: q.1, q.2)))
    rw [total_map]
    grind
end
end VN

set_option Elab.async false
set_option maxRecDepth 100000
/-! machines in plain Lean: pairs of states, all choices of places, words backwards, words for letters, all words of a length -/
namespace VN
open RQ VM
variable {n a b : Nat} {M A B C : Nat → Nat → Nat → Rat}
theorem total_append {α : Type} {f : α → Rat} : ∀ {l m : List α}, total f (l ++ m) = total f l + total f m
  | [], m => by
    show total f m = 0 + total f m
    grind
  | q :: l, m => by
    show f q + total f (l ++ m) = f q + total f l + total f m
    rw [total_append]
    grind
/-- the row with r (t / b) times s (t mod b) at t -/
def pair (b : Nat) (r s : Nat → Rat) : Nat → Rat := fun t => r (t / b) * s (t % b)
theorem pair_at {r s : Nat → Rat} {i j : Nat} (h : j < b) : pair b r s (i * b + j) = r i * s j := by
  unfold pair
  rw [Nat.mul_comm, Nat.mul_add_div (by omega), Nat.div_eq_of_lt h, Nat.add_zero, Nat.mul_add_mod, Nat.mod_eq_of_lt h]
theorem div_lt {t : Nat} (h : t < a * b) : t / b < a := Nat.div_lt_of_lt_mul (by rw [Nat.mul_comm]; exact h)
theorem mod_lt {t : Nat} (h : t < a * b) : t % b < b := Nat.mod_lt _ (by
  rcases Nat.eq_zero_or_pos b with z | z
  · rw [z, Nat.mul_zero] at h
    omega
  · exact z)
theorem pos_of {t : Nat} (h : t < a * b) : 0 < b := by
  have := mod_lt h
  omega
/-- the product of two machines -/
theorem both (h : ∀ x s t, s < a * b → t < a * b → C x s t = A x (s / b) (t / b) * B x (s % b) (t % b)) : ∀ {w : List Nat} {r s : Nat → Rat} {t : Nat}, t < a * b → row (a * b) C (pair b r s) w t = row a A r w (t / b) * row b B s w (t % b)
  | [], _, _, _, _ => rfl
  | x :: w, r, s, t, ht => by
    show row (a * b) C (fun j => dot (pair b r s) (fun i => C x i j) (a * b)) w t = row a A (fun j => dot r (fun i => A x i j) a) w (t / b) * row b B (fun j => dot s (fun i => B x i j) b) w (t % b)
    rw [← both h (w := w) ht]
    refine row_congr (fun j hj => ?_) t ht
    show dot (pair b r s) (fun i => C x i j) (a * b) = dot r (fun i => A x i (j / b)) a * dot s (fun i => B x i (j % b)) b
    rw [← dot_pairs (pos_of ht)]
    exact dot_congr (fun _ _ => rfl) fun i hi => h x i j hi hj
/-- all ways to deal the letters of a word out to two words -/
def deals : List Nat → List (List Nat × List Nat)
  | [] => [([], [])]
  | x :: w => ((deals w).map fun q => (x :: q.1, q.2)) ++ (deals w).map fun q => (q.1, x :: q.2)
/-- a letter goes to the one machine or to the other -/
theorem dealt (h : ∀ x s t, s < a * b → t < a * b → C x s t = A x (s / b) (t / b) * unit (s % b) (t % b) + unit (s / b) (t / b) * B x (s % b) (t % b)) :
    ∀ {w : List Nat} {r s : Nat → Rat} {t : Nat}, t < a * b → row (a * b) C (pair b r s) w t = total (fun q => row a A r q.1 (t / b) * row b B s q.2 (t % b)) (deals w)
  | [], r, s, t, _ => by
    show r (t / b) * s (t % b) = r (t / b) * s (t % b) + 0
    grind
  | x :: w, r, s, t, ht => by
    show row (a * b) C (fun j => dot (pair b r s) (fun i => C x i j) (a * b)) w t = total (fun q => row a A r q.1 (t / b) * row b B s q.2 (t % b)) (((deals w).map fun q => (x :: q.1, q.2)) ++ (deals w).map fun q => (q.1, x :: q.2))
    rw [total_append, total_map, total_map]
    show _ = total (fun q => row a A (fun j => dot r (fun i => A x i j) a) q.1 (t / b) * row b B s q.2 (t % b)) (deals w) + total (fun q => row a A r q.1 (t / b) * row b B (fun j => dot s (fun i => B x i j) b) q.2 (t % b)) (deals w)
    rw [← dealt h (w := w) ht, ← dealt h (w := w) ht]
    have e : ∀ j, j < a * b → dot (pair b r s) (fun i => C x i j) (a * b) = pair b (fun j => dot r (fun i => A x i j) a) s j + pair b r (fun j => dot s (fun i => B x i j) b) j := fun j hj => by
      rw [dot_congr (w := a * b) (fun _ _ => rfl) fun i hi => h x i j hi hj, dot_add]
      have e1 : dot (pair b r s) (fun i => A x (i / b) (j / b) * unit (i % b) (j % b)) (a * b) = dot r (fun i => A x i (j / b)) a * dot s (fun i => unit i (j % b)) b := dot_pairs (u := r) (y := fun i => A x i (j / b)) (v := s) (z := fun i => unit i (j % b)) (a := a) (pos_of ht)
      have e2 : dot (pair b r s) (fun i => unit (i / b) (j / b) * B x (i % b) (j % b)) (a * b) = dot r (fun i => unit i (j / b)) a * dot s (fun i => B x i (j % b)) b := dot_pairs (u := r) (y := fun i => unit i (j / b)) (v := s) (z := fun i => B x i (j % b)) (a := a) (pos_of ht)
      rw [e1, e2, dot_unit (mod_lt hj), dot_unit (div_lt hj)]
      rfl
    rw [row_congr e t ht, row_add]
/-- the steps turned about: words backwards -/
theorem turned : ∀ {w : List Nat} {r : Nat → Rat}, row n (fun x i j => M x j i) r w = col n M r w.reverse
  | [], _ => rfl
  | x :: w, r => by
    show row n (fun x i j => M x j i) (fun j => dot r (fun i => M x j i) n) w = _
    rw [turned (w := w), List.reverse_cons, col_append]
    congr 1
    funext j
    exact dot_comm
/-- words for letters -/
theorem putted {f : Nat → List Nat} (h : ∀ x i j, i < n → j < n → C x i j = tab n M (f x) i j) : ∀ {w : List Nat} {r : Nat → Rat} {j : Nat}, j < n → row n C r w j = row n M r (w.flatMap f) j
  | [], _, _, _ => rfl
  | x :: w, r, j, hj => by
    show row n C (fun j => dot r (fun i => C x i j) n) w j = _
    rw [List.flatMap_cons, row_append, putted h (w := w) hj]
    refine row_congr (fun l hl => ?_) j hj
    show dot r (fun i => C x i l) n = row n M r (f x) l
    rw [row_tab hl]
    exact dot_congr (fun _ _ => rfl) fun i hi => h x i l hi hl
/-- all words of m letters of an alphabet of k -/
def words (k : Nat) : Nat → List (List Nat)
  | 0 => [[]]
  | m + 1 => (List.range k).flatMap fun x => (words k m).map (x :: ·)
theorem total_flat {α β : Type} {f : β → Rat} {g : α → List β} : ∀ {l : List α}, total f (l.flatMap g) = total (fun x => total f (g x)) l
  | [] => rfl
  | q :: l => by
    rw [List.flatMap_cons, total_append, total_flat]
    rfl
theorem row_total {α : Type} {r : α → Nat → Rat} {w : List Nat} : ∀ {l : List α} {j : Nat}, j < n → row n M (fun j => total (fun x => r x j) l) w j = total (fun x => row n M (r x) w j) l
  | [], j, hj => by
    have z : ∀ {w : List Nat}, row n M (fun _ => 0) w = fun _ => 0 := by
      intro w
      have := row_scale (n := n) (M := M) (c := 0) (w := w) (r := fun _ => 0)
      simp only [Rat.zero_mul] at this
      exact this
    show row n M (fun _ => 0) w j = 0
    rw [z]
  | q :: l, j, hj => by
    show row n M (fun j => r q j + total (fun x => r x j) l) w j = row n M (r q) w j + total (fun x => row n M (r x) w j) l
    rw [row_add]
    show row n M (r q) w j + row n M (fun j => total (fun x => r x j) l) w j = _
    rw [row_total (l := l) hj]
theorem dot_total {α : Type} {y : α → Nat → Rat} {r : Nat → Rat} : ∀ {l : List α}, dot r (fun i => total (fun x => y x i) l) n = total (fun x => dot r (y x) n) l
  | [] => dot_zero fun _ _ => Rat.mul_zero _
  | q :: l => by
    show dot r (fun i => y q i + total (fun x => y x i) l) n = dot r (y q) n + total (fun x => dot r (y x) n) l
    rw [dot_add, dot_total]
/-- one letter, whose step is the sum of the steps: all words of a length at once -/
theorem summed {k z : Nat} (h : ∀ i j, i < n → j < n → C z i j = total (fun x => M x i j) (List.range k)) : ∀ {m : Nat} {r : Nat → Rat} {j : Nat}, j < n → row n C r (List.replicate m z) j = total (fun w => row n M r w j) (words k m)
  | 0, r, j, _ => by
    show r j = r j + 0
    grind
  | m + 1, r, j, hj => by
    rw [List.replicate_succ]
    show row n C (fun j => dot r (fun i => C z i j) n) (List.replicate m z) j = total (fun w => row n M r w j) ((List.range k).flatMap fun x => (words k m).map (x :: ·))
    rw [total_flat]
    have e : ∀ l, l < n → dot r (fun i => C z i l) n = total (fun x => dot r (fun i => M x i l) n) (List.range k) := fun l hl => by
      rw [dot_congr (w := n) (fun _ _ => rfl) fun i hi => h i l hi hl, dot_total]
    rw [row_congr e j hj, row_total hj]
    refine total_congr fun x _ => ?_
    rw [summed h (m := m) hj, total_map]
    rfl
/-- all ways to part a word behind at least one letter -/
def heads : List Nat → List (List Nat × List Nat)
  | [] => []
  | x :: w => ([x], w) :: (heads w).map fun q => (x :: q.1, q.2)
theorem row_mix {r s : Nat → Rat} {c : Rat} {w : List Nat} {j : Nat} : row n M (fun j => r j + c * s j) w j = row n M r w j + c * row n M s w j := by
  rw [row_add]
  show row n M r w j + row n M (fun j => c * s j) w j = _
  rw [row_scale]
/-- behind each letter the start s comes anew, as often as the end e says, which the start itself does not meet -/
theorem again {s e : Nat → Rat} (h : ∀ x i j, i < n → j < n → C x i j = A x i j + dot (A x i) e n * s j) (z : dot s e n = 0) :
    ∀ {w : List Nat} {r : Nat → Rat} {j : Nat}, j < n → row n C r w j = row n A r w j + total (fun q => dot (row n C r q.1) e n * row n A s q.2 j) (heads w)
  | [], r, j, _ => by
    show r j = r j + 0
    grind
  | x :: w, r, j, hj => by
    have step : ∀ l, l < n → dot r (fun i => C x i l) n = dot r (fun i => A x i l) n + dot (fun j => dot r (fun i => A x i j) n) e n * s l := fun l hl => by
      rw [dot_congr (w := n) (fun _ _ => rfl) fun i hi => h x i l hi hl, dot_add]
      congr 1
      have e1 : dot r (fun i => dot (A x i) e n * s l) n = dot r (fun i => s l * dot (A x i) e n) n := dot_congr (fun _ _ => rfl) fun i _ => Rat.mul_comm _ _
      rw [e1, dot_mul, dot_swap]
      exact Rat.mul_comm _ _
    have r1 : dot (fun j => dot r (fun i => C x i j) n) e n = dot (fun j => dot r (fun i => A x i j) n) e n := by
      rw [dot_congr step fun _ _ => rfl, dot_comm, dot_add, dot_comm]
      have e1 : dot e (fun l => dot (fun j => dot r (fun i => A x i j) n) e n * s l) n = 0 := by
        rw [dot_mul, dot_comm (u := e) (y := s), z, Rat.mul_zero]
      rw [e1]
      grind
    show row n C (fun j => dot r (fun i => C x i j) n) w j = row n A (fun j => dot r (fun i => A x i j) n) w j + (dot (fun j => dot r (fun i => C x i j) n) e n * row n A s w j + total (fun q => dot (row n C r q.1) e n * row n A s q.2 j) ((heads w).map fun q => (x :: q.1, q.2)))
    rw [again h z (w := w) hj, total_map, r1]
    have e2 : row n A (fun j => dot r (fun i => C x i j) n) w j = row n A (fun j => dot r (fun i => A x i j) n) w j + dot (fun j => dot r (fun i => A x i j) n) e n * row n A s w j := by
      rw [row_congr step j hj]
      exact row_mix
    rw [e2]
    show _ + total (fun q => dot (row n C (fun j => dot r (fun i => C x i j) n) q.1) e n * row n A s q.2 j) (heads w) = _
    have e3 : total (fun q => dot (row n C r (x :: q.1)) e n * row n A s q.2 j) (heads w) = total (fun q => dot (row n C (fun j => dot r (fun i => C x i j) n) q.1) e n * row n A s q.2 j) (heads w) := rfl
    rw [← e3]
    grind
end VN

set_option Elab.async false
set_option maxRecDepth 100000
/-! sizes of the rows, columns and numbers of words -/
namespace VN
open RQ VM
def prod (N : Nat → Int) : List Nat → Int
  | [] => 1
  | x :: w => N x * prod N w
theorem prod_ne {N : Nat → Int} (h : ∀ x, N x ≠ 0) : ∀ {w : List Nat}, prod N w ≠ 0
  | [] => by show (1 : Int) ≠ 0; decide
  | x :: w => Int.mul_ne_zero (h x) (prod_ne h)
variable {n a : Nat} {M : Nat → Nat → Nat → Rat} {N : Nat → Int}
theorem row_ov (h : ∀ x i j, i < n → j < n → Ov (N x) a (M x i j)) : ∀ {w : List Nat} {D : Int} {T : Nat} {r : Nat → Rat}, (∀ i, i < n → Ov D T (r i)) → ∀ j, j < n → Ov (D * prod N w) (T + (a + n) * w.length) (row n M r w j)
  | [], D, T, r, hr, j, hj => by
    show Ov (D * 1) (T + (a + n) * 0) (r j)
    rw [Int.mul_one, Nat.mul_zero, Nat.add_zero]
    exact hr j hj
  | x :: w, D, T, r, hr, j, hj => by
    have s : ∀ j, j < n → Ov (D * N x) (T + a + n) (dot r (fun i => M x i j) n) := fun j hj => Ov.dot fun i hi => (hr i hi).mul (h x i j hi hj)
    have e := row_ov h (w := w) s j hj
    have e1 : D * prod N (x :: w) = D * N x * prod N w := (Int.mul_assoc _ _ _).symm
    have e2 : T + (a + n) * (x :: w).length = T + a + n + (a + n) * w.length := by
      rw [List.length_cons, Nat.mul_succ]
      omega
    rw [e1, e2]
    exact e
theorem col_ov (h : ∀ x i j, i < n → j < n → Ov (N x) a (M x i j)) {D : Int} {T : Nat} {c : Nat → Rat} (hc : ∀ i, i < n → Ov D T (c i)) : ∀ {w : List Nat}, ∀ i, i < n → Ov (prod N w * D) ((a + n) * w.length + T) (col n M c w i)
  | [], i, hi => by
    show Ov (1 * D) ((a + n) * 0 + T) (c i)
    rw [Int.one_mul, Nat.mul_zero, Nat.zero_add]
    exact hc i hi
  | x :: w, i, hi => by
    have s := Ov.dot (w := n) (u := M x i) (y := col n M c w) (M := N x * (prod N w * D)) (T := a + ((a + n) * w.length + T)) fun j hj => (h x i j hi hj).mul (col_ov h hc (w := w) j hj)
    have e1 : prod N (x :: w) * D = N x * (prod N w * D) := Int.mul_assoc _ _ _
    have e2 : (a + n) * (x :: w).length + T = a + ((a + n) * w.length + T) + n := by
      rw [List.length_cons, Nat.mul_succ]
      omega
    rw [e1, e2]
    exact s
/-- and what is summed up halfway -/
theorem half_ov {D E : Int} {S T : Nat} {r c : Nat → Rat} (hr : ∀ i, i < n → Ov D S (r i)) (hc : ∀ i, i < n → Ov E T (c i)) {m : Nat} (hm : m ≤ n) : Ov (D * E) (S + T + n) (dot r c m) :=
  (Ov.dot (w := m) fun i hi => (hr i (Nat.lt_of_lt_of_le hi hm)).mul (hc i (Nat.lt_of_lt_of_le hi hm))).up (Nat.add_le_add_left hm _)
/-- the product of the bottoms of the first k numbers -/
def dens (f : Nat → Rat) : Nat → Int
  | 0 => 1
  | k + 1 => dens f k * ((f k).den : Int)
theorem dens_ne {f : Nat → Rat} : ∀ {k : Nat}, dens f k ≠ 0
  | 0 => by show (1 : Int) ≠ 0; decide
  | k + 1 => Int.mul_ne_zero dens_ne (den_ne _)
theorem dens_bt {f : Nat → Rat} {b : Nat} : ∀ {k : Nat}, (∀ i, i < k → Bt b ((f i).den : Int)) → Bt (b * k + 1) (dens f k)
  | 0, _ => by
    show (1 : Nat) < 2 ^ (b * 0 + 1)
    rw [Nat.mul_zero]
    decide
  | k + 1, h => by
    have e := (dens_bt (k := k) fun i hi => h i (by omega)).mul (h k (by omega))
    rw [Nat.mul_succ, Nat.add_right_comm]
    exact e
theorem dens_ov {f : Nat → Rat} {b : Nat} : ∀ {k : Nat}, (∀ i, i < k → Bt b (f i).num ∧ Bt b ((f i).den : Int)) → ∀ i, i < k → Ov (dens f k) (b + (b * k + 1)) (f i)
  | 0, _, i, hi => absurd hi (Nat.not_lt_zero _)
  | k + 1, h, i, hi => by
    rw [Nat.mul_succ]
    rcases Nat.lt_or_eq_of_le (Nat.le_of_lt_succ hi) with q | q
    · have e := (dens_ov (k := k) (fun i hi => h i (by omega)) i q).lift (h k (by omega)).2
      exact e.up (by omega)
    · subst q
      have e := ((Ov.self (h i (by omega)).1).lift (dens_bt (f := f) (b := b) (k := i) fun j hj => (h j (by omega)).2)).comm
      exact e.up (by omega)
/-- .. of a table of n rows of n numbers, read row by row -/
theorem table_ov {n b : Nat} {A : Nat → Nat → Rat} (h : ∀ i j, i < n → j < n → Bt b (A i j).num ∧ Bt b ((A i j).den : Int)) : ∃ N : Int, N ≠ 0 ∧ Bt (b * (n * n) + 1) N ∧ ∀ i j, i < n → j < n → Ov N (b + (b * (n * n) + 1)) (A i j) := by
  have at_ : ∀ t, t < n * n → t / n < n ∧ t % n < n := fun t ht => ⟨div_lt ht, mod_lt ht⟩
  refine ⟨dens (fun t => A (t / n) (t % n)) (n * n), dens_ne, dens_bt fun t ht => (h _ _ (at_ t ht).1 (at_ t ht).2).2, fun i j hi hj => ?_⟩
  have lt : i * n + j < n * n := by
    have : (i + 1) * n ≤ n * n := Nat.mul_le_mul_right n hi
    rw [Nat.succ_mul] at this
    omega
  have e := dens_ov (f := fun t => A (t / n) (t % n)) (b := b) (k := n * n) (fun t ht => h _ _ (at_ t ht).1 (at_ t ht).2) (i * n + j) lt
  have d : (i * n + j) / n = i ∧ (i * n + j) % n = j := by
    have hp : 0 < n := by omega
    rw [Nat.mul_comm]
    exact ⟨by rw [Nat.mul_add_div hp, Nat.div_eq_of_lt hj, Nat.add_zero], by rw [Nat.mul_add_mod, Nat.mod_eq_of_lt hj]⟩
  have e : Ov _ _ (A ((i * n + j) / n) ((i * n + j) % n)) := e
  rw [d.1, d.2] at e
  exact e
end VN

set_option Elab.async false
set_option maxRecDepth 100000
namespace RX
open PySem L2
/-! ### nested data: what stands at a value, and that it stays -/
inductive Dat where
  | non
  | bl (b : Bool)
  | int (i : Int)
  | str (s : Str)
  | rat (q : Rat)
  | tup (ds : List Dat)
  | lst (ds : List Dat)
  | sq (ds : List Dat)
/-- the value holds the data; none of its objects is in N -/
inductive At (C : Addr) (N : Addr → Prop) (H : Hp) : V → Dat → Prop where
  | non : At C N H .non .non
  | bl (b : Bool) : At C N H (.bl b) (.bl b)
  | int (i : Int) : At C N H (.int i) (.int i)
  | str (s : Str) : At C N H (.str s) (.str s)
  | rat {p : Addr} {q : Rat} (h : RatAt C H p q.num (q.den : Int)) (n : ¬ N p) : At C N H (.ref p) (.rat q)
  | tup {p : Addr} {xs : List V} {ds : List Dat} (h : H p = some (.tup xs)) (n : ¬ N p) (l : xs.length = ds.length) (e : ∀ (i : Nat) (x : V) (d : Dat), xs[i]? = some x → ds[i]? = some d → At C N H x d) : At C N H (.ref p) (.tup ds)
  | lst {p : Addr} {xs : List V} {ds : List Dat} (h : H p = some (.lst xs)) (n : ¬ N p) (l : xs.length = ds.length) (e : ∀ (i : Nat) (x : V) (d : Dat), xs[i]? = some x → ds[i]? = some d → At C N H x d) : At C N H (.ref p) (.lst ds)
  | sq {p : Addr} {xs : List V} {ds : List Dat} (h : H p = some (.tup xs) ∨ H p = some (.lst xs)) (n : ¬ N p) (l : xs.length = ds.length) (e : ∀ (i : Nat) (x : V) (d : Dat), xs[i]? = some x → ds[i]? = some d → At C N H x d) : At C N H (.ref p) (.sq ds)
/-- all but what N holds stays -/
structure Keep (N : Addr → Prop) (H H' : Hp) : Prop where
  k : ∀ b o, H b = some o → ¬ N b → H' b = some o
  a : ∀ b, H b ≠ none → H' b ≠ none
def Alc (N : Addr → Prop) (H : Hp) : Prop := ∀ b, N b → H b ≠ none
/-- N and one more -/
def And1 (N : Addr → Prop) (D : Addr) : Addr → Prop := fun b => N b ∨ b = D
def Emp : Addr → Prop := fun _ => False
theorem Keep.refl {N : Addr → Prop} {H : Hp} : Keep N H H := ⟨fun _ _ h _ => h, fun _ h => h⟩
theorem Keep.trans {N : Addr → Prop} {H H1 H2 : Hp} (x : Keep N H H1) (y : Keep N H1 H2) : Keep N H H2 := ⟨fun b o h n => y.k b o (x.k b o h n) n, fun b h => y.a b (x.a b h)⟩
theorem Same.keep {N : Addr → Prop} {H H' : Hp} (s : Same H H') : Keep N H H' := ⟨fun b o h _ => s b o h, fun b h => by
  cases e : H b with
  | none => exact absurd e h
  | some o => rw [s b o e]; intro z; cases z⟩
theorem Keep.same {H H' : Hp} (k : Keep Emp H H') : Same H H' := fun b o h => k.k b o h id
theorem Keep.more {N M : Addr → Prop} {H H' : Hp} (k : Keep N H H') (s : ∀ b, N b → M b) : Keep M H H' := ⟨fun b o h n => k.k b o h fun z => n (s b z), k.a⟩
theorem Keep.upd {N : Addr → Prop} {H : Hp} {D : Addr} {o : HO} (h : N D) : Keep N H (L2.upd H D o) := ⟨fun b o' e n => by
  rw [upd_ne fun z => n (by rw [z]; exact h)]
  exact e, fun b e => by
  by_cases z : b = D
  · rw [z, upd_same]; intro y; cases y
  · rw [upd_ne z]; exact e⟩
theorem Keep.new {N : Addr → Prop} {H : Hp} {D : Addr} {o : HO} (h : H D = none) : Keep N H (L2.upd H D o) := Same.keep (Same.upd h)
theorem Keep.but {N : Addr → Prop} {H H' : Hp} {a : Addr} (b : But a H H') (n : N a) (s : H' a ≠ none) : Keep N H H' := ⟨fun c o h m => b c o h fun z => m (by rw [z]; exact n), fun c h => by
  by_cases e : c = a
  · rw [e]; exact s
  · cases q : H c with
    | none => exact absurd q h
    | some o => rw [b c o q e]; intro y; cases y⟩
theorem Keep.free {N : Addr → Prop} {H H' : Hp} {r : Addr} (k : Keep N H H') (h : H' r = none) : H r = none := by
  cases e : H r with
  | none => rfl
  | some o => exact absurd h (k.a r (by rw [e]; intro z; cases z))
theorem Alc.keep {N M : Addr → Prop} {H H' : Hp} (a : Alc N H) (k : Keep M H H') : Alc N H' := fun b n => k.a b (a b n)
theorem Alc.fresh {N : Addr → Prop} {H : Hp} {r : Addr} (a : Alc N H) (h : H r = none) : ¬ N r := fun n => a r n h
theorem Alc.and {N : Addr → Prop} {H : Hp} {D : Addr} (a : Alc N H) (h : H D ≠ none) : Alc (And1 N D) H := fun b n => by
  rcases n with n | n
  · exact a b n
  · rw [n]; exact h
theorem alc_emp {H : Hp} : Alc Emp H := fun _ h => h.elim
section
variable {C : Addr} {N M : Addr → Prop} {H H' : Hp}
theorem At.keep {v : V} {d : Dat} (h : At C N H v d) (k : Keep N H H') : At C N H' v d := by
  induction h with
  | non => exact .non
  | bl b => exact .bl b
  | int i => exact .int i
  | str s => exact .str s
  | rat h n => obtain ⟨dx, h⟩ := h; exact .rat ⟨dx, k.k _ _ h n⟩ n
  | tup h n l e ih => exact .tup (k.k _ _ h n) n l ih
  | lst h n l e ih => exact .lst (k.k _ _ h n) n l ih
  | sq h n l e ih => exact .sq (h.imp (fun h => k.k _ _ h n) fun h => k.k _ _ h n) n l ih
theorem At.same {v : V} {d : Dat} (h : At C N H v d) (s : Same H H') : At C N H' v d := h.keep (Same.keep s)
/-- a set that holds no more of what is there -/
theorem At.grow {v : V} {d : Dat} (h : At C N H v d) (s : ∀ b, M b → N b ∨ H b = none) : At C M H v d := by
  induction h with
  | non => exact .non
  | bl b => exact .bl b
  | int i => exact .int i
  | str s => exact .str s
  | rat h n =>
    refine .rat h fun z => ?_
    rcases s _ z with y | y
    · exact n y
    · obtain ⟨dx, h⟩ := h; rw [y] at h; cases h
  | tup h n l e ih =>
    refine .tup h (fun z => ?_) l ih
    rcases s _ z with y | y
    · exact n y
    · rw [y] at h; cases h
  | lst h n l e ih =>
    refine .lst h (fun z => ?_) l ih
    rcases s _ z with y | y
    · exact n y
    · rw [y] at h; cases h
  | sq h n l e ih =>
    refine .sq h (fun z => ?_) l ih
    rcases s _ z with y | y
    · exact n y
    · rw [y] at h; rcases h with h | h <;> cases h
theorem At.less {v : V} {d : Dat} (h : At C N H v d) (s : ∀ b, M b → N b) : At C M H v d := h.grow fun b z => .inl (s b z)
/-- with a new list in the set -/
theorem At.and {v : V} {d : Dat} {D : Addr} (h : At C N H v d) (f : H D = none) : At C (And1 N D) H v d := h.grow fun b z => z.imp id fun e => by rw [e]; exact f
theorem At.drop {v : V} {d : Dat} {D : Addr} (h : At C (And1 N D) H v d) : At C N H v d := h.less fun _ z => .inl z
theorem At.notin {p : Addr} {d : Dat} (h : At C N H (.ref p) d) : ¬ N p := by
  cases h <;> assumption
theorem At.there {p : Addr} {d : Dat} (h : At C N H (.ref p) d) : H p ≠ none := by
  cases h with
  | rat h n => obtain ⟨dx, h⟩ := h; rw [h]; intro z; cases z
  | tup h n l e => rw [h]; intro z; cases z
  | lst h n l e => rw [h]; intro z; cases z
  | sq h n l e => rcases h with h | h <;> (rw [h]; intro z; cases z)
theorem At.sqE {p : Addr} {ds : List Dat} (h : At C N H (.ref p) (.sq ds)) : ∃ xs, (H p = some (.tup xs) ∨ H p = some (.lst xs)) ∧ xs.length = ds.length ∧ ∀ (i : Nat) (x : V) (d : Dat), xs[i]? = some x → ds[i]? = some d → At C N H x d := by
  cases h with
  | sq h n l e => exact ⟨_, h, l, e⟩
theorem At.sqV {v : V} {ds : List Dat} (h : At C N H v (.sq ds)) : ∃ p, v = .ref p := by cases h; exact ⟨_, rfl⟩
/-- a list or a tuple is one of either kind -/
inductive Le : Dat → Dat → Prop where
  | refl (d : Dat) : Le d d
  | tupS {ds es : List Dat} (l : ds.length = es.length) (h : ∀ (i : Nat) (d e : Dat), ds[i]? = some d → es[i]? = some e → Le d e) : Le (.tup ds) (.sq es)
  | lstS {ds es : List Dat} (l : ds.length = es.length) (h : ∀ (i : Nat) (d e : Dat), ds[i]? = some d → es[i]? = some e → Le d e) : Le (.lst ds) (.sq es)
theorem At.weak {d e : Dat} (le : Le d e) : ∀ {v : V}, At C N H v d → At C N H v e := by
  induction le with
  | refl d => exact fun h => h
  | tupS l h ih =>
    intro v hv
    obtain ⟨p, rfl⟩ := (by cases hv; exact ⟨_, rfl⟩ : ∃ p, v = .ref p)
    cases hv with
    | tup h1 n l1 e1 =>
      refine .sq (.inl h1) n (by rw [l1, l]) fun i x d hx hd => ?_
      have lt : i < _ := (List.getElem?_eq_some_iff.mp hd).1
      have hd2 := List.getElem?_eq_getElem (l := _) (show i < _ from by rw [← l] at lt; exact lt)
      exact ih i _ d hd2 hd (e1 i x _ hx hd2)
  | lstS l h ih =>
    intro v hv
    obtain ⟨p, rfl⟩ := (by cases hv; exact ⟨_, rfl⟩ : ∃ p, v = .ref p)
    cases hv with
    | lst h1 n l1 e1 =>
      refine .sq (.inr h1) n (by rw [l1, l]) fun i x d hx hd => ?_
      have lt : i < _ := (List.getElem?_eq_some_iff.mp hd).1
      have hd2 := List.getElem?_eq_getElem (l := _) (show i < _ from by rw [← l] at lt; exact lt)
      exact ih i _ d hd2 hd (e1 i x _ hx hd2)
theorem At.tupE {p : Addr} {ds : List Dat} (h : At C N H (.ref p) (.tup ds)) : ∃ xs, H p = some (.tup xs) ∧ xs.length = ds.length ∧ ∀ (i : Nat) (x : V) (d : Dat), xs[i]? = some x → ds[i]? = some d → At C N H x d := by
  cases h with
  | tup h n l e => exact ⟨_, h, l, e⟩
theorem At.lstE {p : Addr} {ds : List Dat} (h : At C N H (.ref p) (.lst ds)) : ∃ xs, H p = some (.lst xs) ∧ xs.length = ds.length ∧ ∀ (i : Nat) (x : V) (d : Dat), xs[i]? = some x → ds[i]? = some d → At C N H x d := by
  cases h with
  | lst h n l e => exact ⟨_, h, l, e⟩
theorem At.tupV {v : V} {ds : List Dat} (h : At C N H v (.tup ds)) : ∃ p, v = .ref p := by cases h; exact ⟨_, rfl⟩
theorem At.lstV {v : V} {ds : List Dat} (h : At C N H v (.lst ds)) : ∃ p, v = .ref p := by cases h; exact ⟨_, rfl⟩
theorem At.ratV {v : V} {q : Rat} (h : At C N H v (.rat q)) : ∃ p, v = .ref p ∧ RatAt C H p q.num (q.den : Int) := by cases h with | rat h n => exact ⟨_, rfl, h⟩
theorem At.intV {v : V} {i : Int} (h : At C N H v (.int i)) : v = .int i := by cases h; rfl
theorem At.strV {v : V} {s : Str} (h : At C N H v (.str s)) : v = .str s := by cases h; rfl
/-- the items, by a function -/
def rng (n : Nat) (f : Nat → Dat) : List Dat := (List.range n).map f
theorem rng_len {n : Nat} {f : Nat → Dat} : (rng n f).length = n := by unfold rng; rw [List.length_map, List.length_range]
theorem rng_get {n i : Nat} {f : Nat → Dat} (h : i < n) : (rng n f)[i]? = some (f i) := by
  unfold rng
  rw [List.getElem?_map, List.getElem?_range h]
  rfl
theorem rng_lt {n i : Nat} {f : Nat → Dat} {d : Dat} (h : (rng n f)[i]? = some d) : i < n ∧ d = f i := by
  have hi : i < n := by
    have := (List.getElem?_eq_some_iff.mp h).1
    rw [rng_len] at this
    exact this
  rw [rng_get hi] at h
  exact ⟨hi, (Option.some.inj h).symm⟩
theorem rng_succ {n : Nat} {f : Nat → Dat} : rng (n + 1) f = rng n f ++ [f n] := by
  unfold rng
  rw [List.range_succ, List.map_append]
  rfl
theorem rng_ext {n : Nat} {f g : Nat → Dat} (h : ∀ i, i < n → f i = g i) : rng n f = rng n g := List.map_congr_left fun i hi => h i (List.mem_range.mp hi)
theorem At.tupR {p : Addr} {n : Nat} {f : Nat → Dat} (h : At C N H (.ref p) (.tup (rng n f))) : ∃ xs, H p = some (.tup xs) ∧ xs.length = n ∧ ∀ i, i < n → ∃ x, xs[i]? = some x ∧ At C N H x (f i) := by
  obtain ⟨xs, hp, l, e⟩ := h.tupE
  rw [rng_len] at l
  refine ⟨xs, hp, l, fun i hi => ?_⟩
  have hx : xs[i]? = some (xs[i]'(by omega)) := List.getElem?_eq_getElem _
  exact ⟨_, hx, e i _ _ hx (rng_get hi)⟩
theorem At.lstR {p : Addr} {n : Nat} {f : Nat → Dat} (h : At C N H (.ref p) (.lst (rng n f))) : ∃ xs, H p = some (.lst xs) ∧ xs.length = n ∧ ∀ i, i < n → ∃ x, xs[i]? = some x ∧ At C N H x (f i) := by
  obtain ⟨xs, hp, l, e⟩ := h.lstE
  rw [rng_len] at l
  refine ⟨xs, hp, l, fun i hi => ?_⟩
  have hx : xs[i]? = some (xs[i]'(by omega)) := List.getElem?_eq_getElem _
  exact ⟨_, hx, e i _ _ hx (rng_get hi)⟩
theorem At.sqR {p : Addr} {n : Nat} {f : Nat → Dat} (h : At C N H (.ref p) (.sq (rng n f))) : ∃ xs, (H p = some (.tup xs) ∨ H p = some (.lst xs)) ∧ xs.length = n ∧ ∀ i, i < n → ∃ x, xs[i]? = some x ∧ At C N H x (f i) := by
  obtain ⟨xs, hp, l, e⟩ := h.sqE
  rw [rng_len] at l
  refine ⟨xs, hp, l, fun i hi => ?_⟩
  have hx : xs[i]? = some (xs[i]'(by omega)) := List.getElem?_eq_getElem _
  exact ⟨_, hx, e i _ _ hx (rng_get hi)⟩
theorem Le.tupR {n : Nat} {f g : Nat → Dat} (h : ∀ i, i < n → Le (f i) (g i)) : Le (.tup (rng n f)) (.sq (rng n g)) := .tupS (by rw [rng_len, rng_len]) fun i d e hd he => by
  obtain ⟨hi, rfl⟩ := rng_lt hd
  obtain ⟨_, rfl⟩ := rng_lt he
  exact h i hi
theorem Le.lstR {n : Nat} {f g : Nat → Dat} (h : ∀ i, i < n → Le (f i) (g i)) : Le (.lst (rng n f)) (.sq (rng n g)) := .lstS (by rw [rng_len, rng_len]) fun i d e hd he => by
  obtain ⟨hi, rfl⟩ := rng_lt hd
  obtain ⟨_, rfl⟩ := rng_lt he
  exact h i hi
/-- a new tuple of what is there -/
theorem At.newT {xs : List V} {ds : List Dat} {r : Addr} (a : Alc N H) (f : H r = none) (l : xs.length = ds.length) (e : ∀ (i : Nat) (x : V) (d : Dat), xs[i]? = some x → ds[i]? = some d → At C N H x d) : At C N (upd H r (.tup xs)) (.ref r) (.tup ds) :=
  .tup upd_same (a.fresh f) l fun i x d hx hd => (e i x d hx hd).keep (Keep.new f)
theorem At.newL {xs : List V} {ds : List Dat} {r : Addr} (a : Alc N H) (f : H r = none) (l : xs.length = ds.length) (e : ∀ (i : Nat) (x : V) (d : Dat), xs[i]? = some x → ds[i]? = some d → At C N H x d) : At C N (upd H r (.lst xs)) (.ref r) (.lst ds) :=
  .lst upd_same (a.fresh f) l fun i x d hx hd => (e i x d hx hd).keep (Keep.new f)
theorem items0 : ∀ (i : Nat) (x : V) (d : Dat), ([] : List V)[i]? = some x → ([] : List Dat)[i]? = some d → At C N H x d := fun i x d h _ => by simp at h
theorem items1 {x : V} {d : Dat} (h : At C N H x d) : ∀ (i : Nat) (y : V) (e : Dat), [x][i]? = some y → [d][i]? = some e → At C N H y e := fun i y e h1 h2 => by
  match i with
  | 0 => cases h1; cases h2; exact h
  | i + 1 => simp at h1
theorem itemsC {x : V} {d : Dat} {xs : List V} {ds : List Dat} (h : At C N H x d) (t : ∀ (i : Nat) (y : V) (e : Dat), xs[i]? = some y → ds[i]? = some e → At C N H y e) : ∀ (i : Nat) (y : V) (e : Dat), (x :: xs)[i]? = some y → (d :: ds)[i]? = some e → At C N H y e := fun i y e h1 h2 => by
  match i with
  | 0 => cases h1; cases h2; exact h
  | i + 1 => exact t i y e h1 h2
/-! ### a list that a comprehension or a loop builds -/
structure Bld (C : Addr) (M N : Addr → Prop) (H0 : Hp) (D : Addr) (ds : List Dat) (H2 : Hp) : Prop where
  xs : ∃ xs, H2 D = some (.lst xs) ∧ xs.length = ds.length ∧ ∀ (i : Nat) (x : V) (d : Dat), xs[i]? = some x → ds[i]? = some d → At C (And1 N D) H2 x d
  k : Keep M H0 H2
theorem bld0 {D : Addr} (f : H D = none) : Bld C M N H D [] (upd H D (.lst [])) := ⟨⟨[], upd_same, rfl, fun i x d h => by simp at h⟩, Keep.new f⟩
theorem Bld.step {H0 H2 H3 : Hp} {D : Addr} {ds : List Dat} {x : V} {d : Dat} (B : Bld C M N H0 D ds H2) (f : H0 D = none) (k : Keep M H2 H3) (s : ∀ b, M b → N b) (nD : ¬ M D) (h : At C (And1 N D) H3 x d) :
    ∃ acc, H3 D = some (.lst acc) ∧ acc.length = ds.length ∧ Bld C M N H0 D (ds ++ [d]) (upd H3 D (.lst (acc ++ [x]))) := by
  obtain ⟨xs, hD, l, e⟩ := B.xs
  have ku : Keep (And1 N D) H3 (upd H3 D (.lst (xs ++ [x]))) := Keep.upd (.inr rfl)
  refine ⟨xs, k.k _ _ hD nD, l, ⟨⟨xs ++ [x], upd_same, by rw [List.length_append, List.length_append, l]; rfl, fun i y z h1 h2 => ?_⟩, ⟨fun b o hb n => ?_, fun b hb => ?_⟩⟩⟩
  · by_cases lt : i < xs.length
    · rw [List.getElem?_append_left lt] at h1
      rw [List.getElem?_append_left (by omega)] at h2
      exact ((e i y z h1 h2).keep (k.more fun b z => .inl (s b z))).keep ku
    · rw [List.getElem?_append_right (by omega)] at h1
      rw [List.getElem?_append_right (by omega), ← l] at h2
      exact (items1 h _ _ _ h1 h2).keep ku
  · rw [upd_ne (ne_of_none hb f)]
    exact k.k _ _ (B.k.k _ _ hb n) n
  · exact (Keep.upd (N := And1 N D) (.inr rfl)).a b (k.a b (B.k.a b hb))
theorem Bld.done {H0 H2 : Hp} {D : Addr} {ds : List Dat} (B : Bld C M N H0 D ds H2) (n : ¬ N D) : At C N H2 (.ref D) (.lst ds) := by
  obtain ⟨xs, hD, l, e⟩ := B.xs
  exact .lst hD n l fun i x d h1 h2 => (e i x d h1 h2).drop
/-- what was there before stays as it is while the list is built -/
theorem Bld.old {H0 H2 : Hp} {D : Addr} {ds : List Dat} {v : V} {d : Dat} (B : Bld C M N H0 D ds H2) (f : H0 D = none) (s : ∀ b, M b → N b) (h : At C N H0 v d) : At C (And1 N D) H2 v d := (h.and f).keep (B.k.more fun b z => .inl (s b z))
theorem Bld.alc {H0 H2 : Hp} {D : Addr} {ds : List Dat} (B : Bld C M N H0 D ds H2) (a : Alc N H0) : Alc (And1 N D) H2 := (a.keep B.k).and (by obtain ⟨xs, hD, _⟩ := B.xs; rw [hD]; intro z; cases z)
end
/-! ### rows, tables, pairs -/
def ratR (w : Nat) (u : Nat → Rat) : Dat := .tup (rng w fun j => .rat (u j))
def ratT (h w : Nat) (U : Nat → Nat → Rat) : Dat := .tup (rng h fun i => ratR w (U i))
def prD (q : Rat) : Dat := .tup [.int q.num, .int (q.den : Int)]
def prL (w : Nat) (u : Nat → Rat) : Dat := .lst (rng w fun j => prD (u j))
def prT (h w : Nat) (U : Nat → Nat → Rat) : Dat := .lst (rng h fun i => prL w (U i))
def intL (w : Nat) (z : Nat → Int) : Dat := .lst (rng w fun j => .int (z j))
theorem At.pair {C : Addr} {N : Addr → Prop} {H : Hp} {v : V} {q : Rat} (h : At C N H v (prD q)) : ∃ p, v = .ref p ∧ PairAt H p q.num (q.den : Int) ∧ ¬ N p := by
  obtain ⟨p, rfl⟩ := h.tupV
  obtain ⟨xs, hp, l, e⟩ := h.tupE
  match xs, l with
  | [x, y], _ =>
    have h0 := (e 0 x _ rfl rfl).intV
    have h1 := (e 1 y _ rfl rfl).intV
    subst h0 h1
    exact ⟨p, rfl, hp, h.notin⟩
theorem at_pair {C : Addr} {N : Addr → Prop} {H : Hp} {p : Addr} {q : Rat} (h : PairAt H p q.num (q.den : Int)) (n : ¬ N p) : At C N H (.ref p) (prD q) := .tup h n rfl (itemsC (.int _) (items1 (.int _)))
theorem pe_fldK {X : Cx} {K : PySem.W.Frag} (hK : X.K = K) {e : Expr} {f : Str} {pos : Pos} {ta : TE} (he : PE X e ta) (hb : attributeBase e f X.env (eval e X.env) = eval e X.env) : PE X (.Attribute e f pos) (tFld K ta f) := by
  subst hK
  exact pe_fld he hb
theorem pi_listK {X : Cx} {tg : Expr} {K : PySem.W.Frag} (hK : X.K = K) {l : Expr} {tl : TE} (hl : PE X l tl) : PI X tg l (iList K tl) := by
  subst hK
  exact pi_list hl
theorem pi_tupK {X : Cx} {tg : Expr} {K : PySem.W.Frag} (hK : X.K = K) {l : Expr} {tl : TE} (hl : PE X l tl) : PI X tg l (iTup K tl) := by
  subst hK
  exact pi_tup hl
theorem itF {b : Bool} {A B : Prop} (h : b = false) (x : B) : if b = true then A else B := by
  subst h
  exact iteF x
theorem itT {b : Bool} {A B : Prop} (h : b = true) (x : A) : if b = true then A else B := by
  subst h
  exact iteT x
theorem ixN_at {n j : Nat} {z : Int} (e : z = (j : Int)) (h : j < n) : ixN n z = some j := by
  subst e
  unfold ixN
  rw [if_pos (by omega), if_pos (by omega)]
  rfl
theorem small_of {n m : Nat} (h : n = m) (l : m ≤ 1000) : n < sizeLine := small1000 (by omega)
end RX

set_option Elab.async false
set_option maxRecDepth 100000
namespace RX
open PySem L2 VM
open RQ (Hg Bt)
def HgQ (q : Rat) : Prop := Hg q.num ∧ Hg (q.den : Int)
abbrev PrQ (H : Hp) (p : Addr) (q : Rat) : Prop := PairAt H p q.num (q.den : Int)
abbrev LineQ (H : Hp) (p : Addr) (k : Nat) (a : Nat → Addr) (u : Nat → Rat) : Prop := LineAt H p k a (fun j => (u j).num) (fun j => ((u j).den : Int))
abbrev LinesQ (H : Hp) (p : Addr) (h w : Nat) (R : Nat → Addr) (A : Nat → Nat → Addr) (U : Nat → Nat → Rat) : Prop := LinesAt H p h w R A (fun i j => (U i j).num) (fun i j => ((U i j).den : Int))
theorem bt1 : Bt 4 1 := show (1 : Int).natAbs < 2 ^ 4 by decide
/-- a drawn number -/
def NumOk (wd : Int) (q : Rat) : Prop := Bt (17 * wd.toNat + 4) q.num ∧ Bt (17 * wd.toNat + 4) (q.den : Int)
theorem pr_of {n d : Int} (hd : 0 < d) (c : Nat.Coprime n.natAbs d.natAbs) : ∃ q : Rat, q.num = n ∧ (q.den : Int) = d :=
  ⟨⟨n, d.natAbs, by omega, c⟩, rfl, by show ((d.natAbs : Nat) : Int) = d; omega⟩
theorem FnOk.weak {P : Program} {w : World} {K : PySem.W.Frag} {mg : Str → Option Value} {base : Heap} {CX : CXT} {k : Nat} {f : Addr} {fd : FuncData} {ps : List Str} {sp sp' : Sp} (F : FnOk P w K mg base CX k f fd ps sp) (h : ∀ vs H Q E, sp' vs H Q E → sp vs H Q E) : FnOk P w K mg base CX k f fd ps sp' :=
  ⟨fun vs H Q E z => F.len vs H Q E (h vs H Q E z), fun A outer s H args us vs Q E a1 a2 a3 a4 z => F.run A outer s H args us vs Q E a1 a2 a3 a4 (h vs H Q E z)⟩
def spNumQ : Sp := fun vs H Q _ => ∃ (a cl : Addr) (wd : Int), vs = [.ref a, .int wd] ∧ FeedAt H a cl ∧ 0 ≤ wd ∧ wd ≤ 4 ∧ ∀ (r : Addr) (q : Rat) (H' : Hp), FeedAt H' a cl → But a H H' → H r = none → PrQ H' r q → NumOk wd q → Q (.ref r) H'
def spSumQ : Sp := fun vs H Q _ => ∃ (p q : Addr) (u v : Rat), vs = [.ref p, .ref q] ∧ PrQ H p u ∧ PrQ H q v ∧ HgQ u ∧ HgQ v ∧ ∀ (r : Addr) (H' : Hp), Same H H' → H r = none → PrQ H' r (u + v) → Q (.ref r) H'
def spByQ : Sp := fun vs H Q _ => ∃ (p q : Addr) (u v : Rat), vs = [.ref p, .ref q] ∧ PrQ H p u ∧ PrQ H q v ∧ HgQ u ∧ HgQ v ∧ ∀ (r : Addr) (H' : Hp), Same H H' → H r = none → PrQ H' r (u * v) → Q (.ref r) H'
theorem sum_q : ∀ vs H Q E, spSumQ vs H Q E → spSumB vs H Q E := by
  rintro vs H Q E ⟨p, q, u, v, rfl, hp, hq, gu, gv, k⟩
  refine ⟨p, q, _, _, _, _, rfl, hp, hq, den_ne u, den_ne v, gu.1, gu.2, gv.1, gv.2, fun r H' s nr hR => k r H' s nr ?_⟩
  have e : ((u.num * (v.den : Int) + v.num * (u.den : Int) : Int) : Rat) = (u + v) * (((u.den : Int) * (v.den : Int) : Int) : Rat) := by
    rw [Rat.intCast_add, Rat.intCast_mul, Rat.intCast_mul, Rat.intCast_mul, RQ.nd u, RQ.nd v]
    grind
  obtain ⟨q1, q2⟩ := RQ.low (Int.mul_ne_zero (den_ne u) (den_ne v)) e
  show PairAt H' r _ _
  rw [← q1, ← q2]
  exact hR
theorem by_q : ∀ vs H Q E, spByQ vs H Q E → spByB vs H Q E := by
  rintro vs H Q E ⟨p, q, u, v, rfl, hp, hq, gu, gv, k⟩
  refine ⟨p, q, _, _, _, _, rfl, hp, hq, den_ne u, den_ne v, gu.1, gu.2, gv.1, gv.2, fun r H' s nr hR => k r H' s nr ?_⟩
  have e : ((u.num * v.num : Int) : Rat) = (u * v) * (((u.den : Int) * (v.den : Int) : Int) : Rat) := by
    rw [Rat.intCast_mul, Rat.intCast_mul, RQ.nd u, RQ.nd v]
    grind
  obtain ⟨q1, q2⟩ := RQ.low (Int.mul_ne_zero (den_ne u) (den_ne v)) e
  show PairAt H' r _ _
  rw [← q1, ← q2]
  exact hR
end RX

set_option Elab.async false
set_option maxRecDepth 100000
/-! rows as integers above one bottom -/
namespace VA
open RQ VM
/-- the least bottom for the first w numbers -/
def cb (u : Nat → Rat) : Nat → Nat
  | 0 => 1
  | w + 1 => Nat.lcm (cb u w) (u w).den
theorem cb_pos {u : Nat → Rat} : ∀ {w : Nat}, 0 < cb u w
  | 0 => Nat.one_pos
  | w + 1 => Nat.lcm_pos cb_pos (u w).den_pos
theorem cb_dvd {u : Nat → Rat} : ∀ {w i : Nat}, i < w → (u i).den ∣ cb u w
  | 0, i, h => absurd h (by omega)
  | w + 1, i, h => by
    rcases Nat.lt_or_eq_of_le (Nat.le_of_lt_succ h) with q | q
    · exact Nat.dvd_trans (cb_dvd q) (Nat.dvd_lcm_left _ _)
    · rw [q]; exact Nat.dvd_lcm_right _ _
theorem cb_up {u : Nat → Rat} : ∀ {w i : Nat}, i ≤ w → cb u i ∣ cb u w
  | 0, i, h => by rw [show i = 0 by omega]; exact Nat.dvd_refl _
  | w + 1, i, h => by
    rcases Nat.lt_or_eq_of_le h with q | q
    · exact Nat.dvd_trans (cb_up (by omega)) (Nat.dvd_lcm_left _ _)
    · rw [q]; exact Nat.dvd_refl _
theorem cb_least {u : Nat → Rat} {M : Nat} : ∀ {w : Nat}, (∀ i, i < w → (u i).den ∣ M) → cb u w ∣ M
  | 0, _ => Nat.one_dvd _
  | w + 1, h => Nat.lcm_dvd (cb_least fun i hi => h i (by omega)) (h w (by omega))
/-- .. of the first h rows -/
def cbt (U : Nat → Nat → Rat) (n : Nat) : Nat → Nat
  | 0 => 1
  | h + 1 => Nat.lcm (cbt U n h) (cb (U h) n)
theorem cbt_pos {U : Nat → Nat → Rat} {n : Nat} : ∀ {h : Nat}, 0 < cbt U n h
  | 0 => Nat.one_pos
  | h + 1 => Nat.lcm_pos cbt_pos cb_pos
theorem cbt_row {U : Nat → Nat → Rat} {n : Nat} : ∀ {h i : Nat}, i < h → cb (U i) n ∣ cbt U n h
  | 0, i, hi => absurd hi (by omega)
  | h + 1, i, hi => by
    rcases Nat.lt_or_eq_of_le (Nat.le_of_lt_succ hi) with q | q
    · exact Nat.dvd_trans (cbt_row q) (Nat.dvd_lcm_left _ _)
    · rw [q]; exact Nat.dvd_lcm_right _ _
theorem cbt_up {U : Nat → Nat → Rat} {n : Nat} : ∀ {h i : Nat}, i ≤ h → cbt U n i ∣ cbt U n h
  | 0, i, hi => by rw [show i = 0 by omega]; exact Nat.dvd_refl _
  | h + 1, i, hi => by
    rcases Nat.lt_or_eq_of_le hi with q | q
    · exact Nat.dvd_trans (cbt_up (by omega)) (Nat.dvd_lcm_left _ _)
    · rw [q]; exact Nat.dvd_refl _
theorem cbt_dvd {U : Nat → Nat → Rat} {n h i j : Nat} (hi : i < h) (hj : j < n) : (U i j).den ∣ cbt U n h := Nat.dvd_trans (cb_dvd hj) (cbt_row hi)
theorem cbt_least {U : Nat → Nat → Rat} {n M : Nat} : ∀ {h : Nat}, (∀ i, i < h → ∀ j, j < n → (U i j).den ∣ M) → cbt U n h ∣ M
  | 0, _ => Nat.one_dvd _
  | h + 1, k => Nat.lcm_dvd (cbt_least fun i hi => k i (by omega)) (cb_least (k h (by omega)))
/-- the top of a number above the bottom B -/
def topz (u : Nat → Rat) (B : Int) (j : Nat) : Int := (u j).num * B.fdiv ((u j).den : Int)
theorem topz_eq {u : Nat → Rat} {B : Int} {j : Nat} (d : ((u j).den : Int) ∣ B) : ((topz u B j : Int) : Rat) = u j * (B : Rat) := by
  have e := RT.fdiv_of_dvd (den_ne (u j)) d
  have n := nd (u j)
  unfold topz
  rw [Rat.intCast_mul, n]
  have e2 : ((B.fdiv ((u j).den : Int) : Int) : Rat) * (((u j).den : Int) : Rat) = (B : Rat) := by rw [← Rat.intCast_mul, e]
  grind
theorem of_bt {b : Nat} {x y : Nat} (h : x ∣ y) (p : 0 < y) (k : Bt b (y : Int)) : Bt b (x : Int) := k.le (by rw [Int.natAbs_natCast, Int.natAbs_natCast]; exact Nat.le_of_dvd p h)
theorem fdiv_bt {b : Nat} {B d : Int} (hd : d ≠ 0) (h : d ∣ B) (k : Bt b B) : Bt b (B.fdiv d) := quot_bt h hd k
def wsum (z y : Nat → Int) : Nat → Int
  | 0 => 0
  | n + 1 => wsum z y n + z n * y n
theorem wsum_cast {z y : Nat → Int} : ∀ {n : Nat}, ((wsum z y n : Int) : Rat) = dot (fun i => (z i : Rat)) (fun i => (y i : Rat)) n
  | 0 => rfl
  | n + 1 => by
    show ((wsum z y n + z n * y n : Int) : Rat) = dot _ _ n + _
    rw [Rat.intCast_add, wsum_cast, Rat.intCast_mul]
theorem wsum_list {z y : Nat → Int} : ∀ {n : Nat}, ((List.range n).map fun i => z i * y i).sum = wsum z y n
  | 0 => rfl
  | n + 1 => by
    rw [List.range_succ, List.map_append, List.sum_append, wsum_list]
    show _ + (z n * y n + 0) = _
    rw [Int.add_zero]
    rfl
theorem wsum_congr {z y z' y' : Nat → Int} : ∀ {n : Nat}, (∀ i, i < n → z i = z' i ∧ y i = y' i) → wsum z y n = wsum z' y' n
  | 0, _ => rfl
  | n + 1, h => by
    show wsum z y n + z n * y n = wsum z' y' n + z' n * y' n
    rw [wsum_congr fun i hi => h i (by omega), (h n (by omega)).1, (h n (by omega)).2]
theorem wsum_bt {a b : Nat} {z y : Nat → Int} : ∀ {n : Nat}, (∀ i, i < n → Bt a (z i) ∧ Bt b (y i)) → Bt (a + b + n) (wsum z y n)
  | 0, _ => bt0 _
  | n + 1, h => by
    have i := wsum_bt (n := n) fun i hi => h i (by omega)
    exact i.add (((h n (by omega)).1.mul (h n (by omega)).2).up (by omega))
/-- sizes of a row above its bottom -/
structure SzR (w : Nat) (u : Nat → Rat) (m t : Nat) : Prop where
  b : Bt m ((cb u w : Nat) : Int)
  t : ∀ j, j < w → Bt t (topz u ((cb u w : Nat) : Int) j)
/-- and of a table -/
structure SzT (h w : Nat) (U : Nat → Nat → Rat) (m t : Nat) : Prop where
  b : Bt m ((cbt U w h : Nat) : Int)
  t : ∀ i, i < h → ∀ j, j < w → Bt t (topz (U i) ((cbt U w h : Nat) : Int) j)
theorem topz_num {b : Nat} {u : Nat → Rat} {B : Int} {j : Nat} (d : ((u j).den : Int) ∣ B) (n0 : B ≠ 0) (k : Bt b (topz u B j)) : Bt b (u j).num := by
  have e := RT.fdiv_of_dvd (den_ne (u j)) d
  refine k.le ?_
  unfold topz
  rw [Int.natAbs_mul]
  refine Nat.le_mul_of_pos_right _ ?_
  have : B.fdiv ((u j).den : Int) ≠ 0 := fun z => n0 (by rw [← e, z, Int.zero_mul])
  omega
/-- numbers over a common bottom: their sizes -/
theorem szr_of {w m t : Nat} {u : Nat → Rat} {M : Int} (m0 : M ≠ 0) (bM : Bt m M) (h : ∀ j, j < w → Ov M t (u j)) : SzR w u m t := by
  have dv : cb u w ∣ M.natAbs := cb_least fun i hi => by
    have := ((h i hi).den m0).1
    have := Int.natAbs_dvd_natAbs.mpr this
    rwa [Int.natAbs_natCast] at this
  have p : 0 < M.natAbs := by omega
  have le : cb u w ≤ M.natAbs := Nat.le_of_dvd p dv
  refine ⟨bM.le (by rw [Int.natAbs_natCast]; exact le), fun j hj => ?_⟩
  obtain ⟨z, e, b⟩ := h j hj
  obtain ⟨c, hc⟩ := dv
  have d1 : ((u j).den : Int) ∣ ((cb u w : Nat) : Int) := Int.natCast_dvd_natCast.mpr (cb_dvd hj)
  have e1 := topz_eq d1
  refine b.le ?_
  have c0 : c ≠ 0 := fun y => by rw [y, Nat.mul_zero] at hc; omega
  have sg : M = M.sign * ((cb u w : Nat) : Int) * (c : Int) := by
    have := Int.sign_mul_natAbs M
    rw [hc] at this
    rw [Int.mul_assoc, ← Int.natCast_mul]
    exact this.symm
  have ez : z = M.sign * (c : Int) * topz u ((cb u w : Nat) : Int) j := by
    refine Rat.intCast_inj.mp ?_
    rw [e, Rat.intCast_mul, e1]
    have : (M : Rat) = ((M.sign * ((cb u w : Nat) : Int) * (c : Int) : Int) : Rat) := by rw [← sg]
    rw [this, Rat.intCast_mul, Rat.intCast_mul, Rat.intCast_mul]
    grind
  rw [ez, Int.natAbs_mul, Int.natAbs_mul]
  have s1 : M.sign.natAbs = 1 := Int.natAbs_sign_of_ne_zero m0
  rw [s1, Nat.one_mul, Int.natAbs_natCast]
  exact Nat.le_mul_of_pos_left _ (by omega)
theorem szt_of {h w m t : Nat} {U : Nat → Nat → Rat} {M : Int} (m0 : M ≠ 0) (bM : Bt m M) (k : ∀ i, i < h → ∀ j, j < w → Ov M t (U i j)) : SzT h w U m t := by
  have dv : cbt U w h ∣ M.natAbs := cbt_least fun i hi j hj => by
    have := ((k i hi j hj).den m0).1
    have := Int.natAbs_dvd_natAbs.mpr this
    rwa [Int.natAbs_natCast] at this
  have p : 0 < M.natAbs := by omega
  have le : cbt U w h ≤ M.natAbs := Nat.le_of_dvd p dv
  refine ⟨bM.le (by rw [Int.natAbs_natCast]; exact le), fun i hi j hj => ?_⟩
  obtain ⟨z, e, b⟩ := k i hi j hj
  obtain ⟨c, hc⟩ := dv
  have d1 : ((U i j).den : Int) ∣ ((cbt U w h : Nat) : Int) := Int.natCast_dvd_natCast.mpr (cbt_dvd hi hj)
  have e1 := topz_eq d1
  refine b.le ?_
  have c0 : c ≠ 0 := fun y => by rw [y, Nat.mul_zero] at hc; omega
  have sg : M = M.sign * ((cbt U w h : Nat) : Int) * (c : Int) := by
    have := Int.sign_mul_natAbs M
    rw [hc] at this
    rw [Int.mul_assoc, ← Int.natCast_mul]
    exact this.symm
  have ez : z = M.sign * (c : Int) * topz (U i) ((cbt U w h : Nat) : Int) j := by
    refine Rat.intCast_inj.mp ?_
    rw [e, Rat.intCast_mul, e1]
    have : (M : Rat) = ((M.sign * ((cbt U w h : Nat) : Int) * (c : Int) : Int) : Rat) := by rw [← sg]
    rw [this, Rat.intCast_mul, Rat.intCast_mul, Rat.intCast_mul]
    grind
  rw [ez, Int.natAbs_mul, Int.natAbs_mul]
  have s1 : M.sign.natAbs = 1 := Int.natAbs_sign_of_ne_zero m0
  rw [s1, Nat.one_mul, Int.natAbs_natCast]
  exact Nat.le_mul_of_pos_left _ (by omega)
/-- whole numbers z above B, of at most this many bits, for the numbers q -/
structure Abv (n : Nat) (q : Nat → Rat) (z : Nat → Int) (B : Int) (b t : Nat) : Prop where
  b0 : B ≠ 0
  bb : Bt b B
  eq : ∀ j, j < n → (z j : Rat) = q j * (B : Rat)
  bt : ∀ j, j < n → Bt t (z j)
theorem Abv.up {n b t b' t' : Nat} {q : Nat → Rat} {z : Nat → Int} {B : Int} (h : Abv n q z B b t) (l : b ≤ b') (k : t ≤ t') : Abv n q z B b' t' := ⟨h.b0, h.bb.up l, h.eq, fun j hj => (h.bt j hj).up k⟩
theorem dot_scaled {u y : Nat → Rat} {c d : Rat} : ∀ {w : Nat}, dot (fun i => u i * c) (fun i => y i * d) w = dot u y w * (c * d)
  | 0 => by unfold dot; grind
  | w + 1 => by
    unfold dot
    rw [dot_scaled]
    grind
theorem abv_sum {n b t : Nat} {q : Nat → Rat} {z y : Nat → Int} {B c : Int} {p : Nat → Rat} (h : Abv n q z B b t) (hy : ∀ i, i < n → (y i : Rat) = p i * (c : Rat)) : ((wsum z y n : Int) : Rat) = dot q p n * ((B * c : Int) : Rat) := by
  rw [wsum_cast, dot_congr (u' := fun i => q i * (B : Rat)) (y' := fun i => p i * (c : Rat)) (fun j hj => h.eq j hj) (fun j hj => hy j hj), dot_scaled, Rat.intCast_mul]
theorem cbt_ne {U : Nat → Nat → Rat} {n h : Nat} : ((cbt U n h : Nat) : Int) ≠ 0 := by
  have := cbt_pos (U := U) (n := n) (h := h)
  omega
theorem cb_ne {u : Nat → Rat} {n : Nat} : ((cb u n : Nat) : Int) ≠ 0 := by
  have := cb_pos (u := u) (w := n)
  omega
theorem abv_step {n b t b1 t1 : Nat} {q : Nat → Rat} {z : Nat → Int} {B : Int} {U : Nat → Nat → Rat} (h : Abv n q z B b t) (sz : SzT n n U b1 t1) :
    Abv n (fun j => dot q (fun i => U i j) n) (fun j => wsum z (fun i => topz (U i) ((cbt U n n : Nat) : Int) j) n) (B * ((cbt U n n : Nat) : Int)) (b + b1) (t + t1 + n) :=
  ⟨Int.mul_ne_zero h.b0 cbt_ne, h.bb.mul sz.b, fun j hj => abv_sum (p := fun i => U i j) h fun i hi => topz_eq (Int.natCast_dvd_natCast.mpr (cbt_dvd hi hj)), fun j hj => wsum_bt fun i hi => ⟨h.bt i hi, sz.t i hi j hj⟩⟩
theorem abv_row {n b t : Nat} {u : Nat → Rat} (sz : SzR n u b t) : Abv n u (topz u ((cb u n : Nat) : Int)) ((cb u n : Nat) : Int) b t :=
  ⟨cb_ne, sz.b, fun j hj => topz_eq (Int.natCast_dvd_natCast.mpr (cb_dvd hj)), sz.t⟩
theorem abv_sum' {n b t : Nat} {q : Nat → Rat} {z y : Nat → Int} {B c : Int} {p : Nat → Rat} (h : Abv n q z B b t) (hy : ∀ i, i < n → (y i : Rat) = p i * (c : Rat)) : ((wsum y z n : Int) : Rat) = dot p q n * ((B * c : Int) : Rat) := by
  rw [wsum_cast, dot_congr (u' := fun i => p i * (c : Rat)) (y' := fun i => q i * (B : Rat)) (fun j hj => hy j hj) (fun j hj => h.eq j hj), dot_scaled, Rat.intCast_mul, Rat.mul_comm (c : Rat)]
theorem abv_col {n b t b1 t1 : Nat} {q : Nat → Rat} {z : Nat → Int} {B : Int} {U : Nat → Nat → Rat} (h : Abv n q z B b t) (sz : SzT n n U b1 t1) :
    Abv n (fun i => dot (U i) q n) (fun i => wsum (fun j => topz (U i) ((cbt U n n : Nat) : Int) j) z n) (B * ((cbt U n n : Nat) : Int)) (b + b1) (t1 + t + n) :=
  ⟨Int.mul_ne_zero h.b0 cbt_ne, h.bb.mul sz.b, fun i hi => abv_sum' (p := U i) h fun j hj => topz_eq (Int.natCast_dvd_natCast.mpr (cbt_dvd hi hj)), fun i hi => wsum_bt fun j hj => ⟨sz.t i hi j hj, h.bt j hj⟩⟩
theorem abv_unit {n i : Nat} : Abv n (VN.unit i) (fun j => if i = j then 1 else 0) 1 1 1 :=
  ⟨by decide, show (1 : Int).natAbs < 2 ^ 1 by decide, fun j hj => by
    show (((if i = j then 1 else 0 : Int)) : Rat) = (if i = j then (1 : Rat) else 0) * ((1 : Int) : Rat)
    have one : ((1 : Int) : Rat) = 1 := rfl
    have zero : ((0 : Int) : Rat) = 0 := rfl
    by_cases e : i = j
    · rw [if_pos e, if_pos e, one, Rat.mul_one]
    · rw [if_neg e, if_neg e, zero, one, Rat.mul_one], fun j hj => by
    show ((if i = j then 1 else 0 : Int)).natAbs < 2 ^ 1
    by_cases e : i = j
    · rw [if_pos e]; decide
    · rw [if_neg e]; decide⟩
end VA

set_option Elab.async false
set_option maxRecDepth 100000
set_option exponentiation.threshold 100000
namespace RX
open PySem L2 VA
open RQ (Hg Bt)
/-! ### rows as integers above one bottom -/
abbrev sCbm : Stmt := topS 18
theorem scCbm : FnScope ["row", "bottom", "number"] ["row"] (defScope sCbm) := ⟨rfl, rfl, rfl, by decide +kernel, rfl, by decide +kernel, by decide +kernel⟩
abbrev sTa : Stmt := topS 19
theorem scTa : FnScope ["row", "bottom", "number"] ["row", "bottom"] (defScope sTa) := ⟨rfl, rfl, rfl, by decide +kernel, rfl, by decide +kernel, by decide +kernel⟩
abbrev sRa : Stmt := topS 20
theorem scRa : FnScope ["row", "bottom"] ["row"] (defScope sRa) := ⟨rfl, rfl, rfl, by decide +kernel, rfl, by decide +kernel, by decide +kernel⟩
abbrev sTb : Stmt := topS 21
theorem scTb : FnScope ["table", "bottom", "row"] ["table"] (defScope sTb) := ⟨rfl, rfl, rfl, by decide +kernel, rfl, by decide +kernel, by decide +kernel⟩
abbrev sRts : Stmt := topS 22
theorem scRts : FnScope ["tops", "bottom", "top"] ["tops", "bottom"] (defScope sRts) := ⟨rfl, rfl, rfl, by decide +kernel, rfl, by decide +kernel, by decide +kernel⟩
abbrev sWp : Stmt := topS 23
theorem scWp : FnScope ["one", "other", "mine", "its"] ["one", "other"] (defScope sWp) := ⟨rfl, rfl, rfl, by decide +kernel, rfl, by decide +kernel, by decide +kernel⟩
abbrev sWr : Stmt := topS 24
theorem scWr : FnScope ["row", "square", "sums", "number", "line", "done", "more"] ["row", "square"] (defScope sWr) := ⟨rfl, rfl, rfl, by decide +kernel, rfl, by decide +kernel, by decide +kernel⟩
def iV (w : Nat) (z : Nat → Int) : List V := (List.range w).map fun j => V.int (z j)
theorem iV_len {w : Nat} {z : Nat → Int} : (iV w z).length = w := by unfold iV; rw [List.length_map, List.length_range]
theorem iV_get {w : Nat} {z : Nat → Int} {i : Nat} (h : i < w) : (iV w z)[i]? = some (.int (z i)) := by
  unfold iV
  rw [List.getElem?_map, List.getElem?_range h]
  rfl
theorem iV_lt {w : Nat} {z : Nat → Int} {i : Nat} {x : V} (h : (iV w z)[i]? = some x) : i < w ∧ x = .int (z i) := by
  have hi : i < w := by
    have := (List.getElem?_eq_some_iff.mp h).1
    rw [iV_len] at this
    exact this
  rw [iV_get hi] at h
  exact ⟨hi, (Option.some.inj h).symm⟩
theorem iV_succ {w : Nat} {z : Nat → Int} : iV (w + 1) z = iV w z ++ [.int (z w)] := by
  unfold iV
  rw [List.range_succ, List.map_append]
  rfl
theorem zeros_iV : ∀ {n : Nat}, (List.replicate n [V.int 0]).flatten = iV n fun _ => 0
  | 0 => rfl
  | n + 1 => by
    rw [iV_succ, ← zeros_iV, List.replicate_succ', List.flatten_append]
    rfl
theorem at_ints {C : Addr} {N : Addr → Prop} {H : Hp} {p : Addr} {w : Nat} {z : Nat → Int} (h : H p = some (.lst (iV w z))) (n : ¬ N p) : At C N H (.ref p) (intL w z) :=
  .lst h n (by rw [iV_len, rng_len]) fun i x d hx hd => by
    obtain ⟨hi, rfl⟩ := iV_lt hx
    obtain ⟨_, rfl⟩ := rng_lt hd
    exact .int _
theorem At.ints {C : Addr} {N : Addr → Prop} {H : Hp} {p : Addr} {w : Nat} {z : Nat → Int} (h : At C N H (.ref p) (intL w z)) : H p = some (.lst (iV w z)) := by
  obtain ⟨xs, hp, l, e⟩ := At.lstR h
  rw [hp]
  congr 2
  refine List.ext_getElem? fun i => ?_
  by_cases hi : i < w
  · obtain ⟨x, hx, hd⟩ := e i hi
    rw [hx, iV_get hi, hd.intV]
  · rw [List.getElem?_eq_none (by omega), List.getElem?_eq_none (by rw [iV_len]; omega)]
theorem Hg.bt {b : Nat} {x : Int} (h : Bt b x) (l : b ≤ 60000000) : Hg x := ⟨b, l, h⟩
theorem lt13 {x : Nat} {m : Nat} (h : Bt m (x : Int)) (l : m ≤ 12999) : ((x : Int)).natAbs < 2 ^ 13000 := Nat.lt_of_lt_of_le h (Nat.pow_le_pow_right (by decide) (by omega))
theorem lcmN {a b : Nat} : RT.lcmI (a : Int) (b : Int) = ((Nat.lcm a b : Nat) : Int) := by
  unfold RT.lcmI
  rw [Int.natAbs_natCast, Int.natAbs_natCast]
def spCbm (C : Addr) : Sp := fun vs H Q _ => ∃ (N : Addr → Prop) (p : Addr) (w m : Nat) (u : Nat → Rat), vs = [.ref p] ∧ At C N H (.ref p) (ratR w u) ∧ Bt m ((cb u w : Nat) : Int) ∧ m ≤ 12999 ∧ Q (.int ((cb u w : Nat) : Int)) H
def spTa (C : Addr) : Sp := fun vs H Q _ => ∃ (N : Addr → Prop) (p : Addr) (w b : Nat) (u : Nat → Rat) (B : Int), vs = [.ref p, .int B] ∧ At C N H (.ref p) (ratR w u) ∧ Alc N H ∧ w ≤ 1000 ∧ B ≠ 0 ∧ (∀ j, j < w → ((u j).den : Int) ∣ B) ∧ Bt b B ∧ (∀ j, j < w → Bt b (topz u B j)) ∧ b ≤ 60000000 ∧
  ∀ (r : Addr) (H' : Hp), Same H H' → H r = none → At C N H' (.ref r) (intL w (topz u B)) → Q (.ref r) H'
def absR (w : Nat) (u : Nat → Rat) : Dat := .tup [intL w (topz u ((cb u w : Nat) : Int)), .int ((cb u w : Nat) : Int)]
def absT (h w : Nat) (U : Nat → Nat → Rat) : Dat := .tup [.lst (rng h fun i => intL w (topz (U i) ((cbt U w h : Nat) : Int))), .int ((cbt U w h : Nat) : Int)]
def spRa (C : Addr) : Sp := fun vs H Q _ => ∃ (N : Addr → Prop) (p : Addr) (w m t : Nat) (u : Nat → Rat), vs = [.ref p] ∧ At C N H (.ref p) (ratR w u) ∧ Alc N H ∧ w ≤ 1000 ∧ SzR w u m t ∧ m ≤ 12999 ∧ t ≤ 40000000 ∧
  ∀ (r : Addr) (H' : Hp), Same H H' → H r = none → At C N H' (.ref r) (absR w u) → Q (.ref r) H'
def spTb (C : Addr) : Sp := fun vs H Q _ => ∃ (N : Addr → Prop) (p : Addr) (h w m t : Nat) (U : Nat → Nat → Rat), vs = [.ref p] ∧ At C N H (.ref p) (ratT h w U) ∧ Alc N H ∧ h ≤ 1000 ∧ w ≤ 1000 ∧ SzT h w U m t ∧ m ≤ 12999 ∧ t ≤ 40000000 ∧
  ∀ (r : Addr) (H' : Hp), Same H H' → H r = none → At C N H' (.ref r) (absT h w U) → Q (.ref r) H'
def spRts (C : Addr) : Sp := fun vs H Q _ => ∃ (N : Addr → Prop) (p : Addr) (w : Nat) (z : Nat → Int) (B : Int) (q : Nat → Rat), vs = [.ref p, .int B] ∧ At C N H (.ref p) (intL w z) ∧ Alc N H ∧ w ≤ 1000 ∧ B ≠ 0 ∧ (∀ j, j < w → (z j : Rat) = q j * (B : Rat)) ∧
  ∀ (r : Addr) (H' : Hp), Same H H' → H r = none → At C N H' (.ref r) (ratR w q) → Q (.ref r) H'
def spWp (C : Addr) : Sp := fun vs H Q _ => ∃ (N : Addr → Prop) (p r : Addr) (w : Nat) (z y : Nat → Int), vs = [.ref p, .ref r] ∧ At C N H (.ref p) (intL w z) ∧ At C N H (.ref r) (intL w y) ∧ w ≤ 1000 ∧ (∀ j, j < w → Hg (z j) ∧ Hg (y j)) ∧ ∀ H', Same H H' → Q (.int (wsum z y w)) H'
def spWr (C : Addr) : Sp := fun vs H Q _ => ∃ (N : Addr → Prop) (p r : Addr) (n : Nat) (z : Nat → Int) (y : Nat → Nat → Int), vs = [.ref p, .ref r] ∧ At C N H (.ref p) (intL n z) ∧ At C N H (.ref r) (.lst (rng n fun i => intL n (y i))) ∧ Alc N H ∧ n ≤ 1000 ∧ (∀ i, i < n → Hg (z i)) ∧ (∀ i, i < n → ∀ j, j < n → Hg (y i j)) ∧
  ∀ (q : Addr) (H' : Hp), Same H H' → H q = none → At C N H' (.ref q) (intL n fun j => wsum z (fun i => y i j) n) → Q (.ref q) H'
section
variable {P : Program} {w : World} {K : PySem.W.Frag} {mg : Str → Option Value} {base : Heap}
theorem ok_cbm {f C : Addr} {fd : FuncData} (F : Fun K "common_bottom" "common_bottom" sCbm f fd) (TP : TxtP mg) (TR : TxtR K mg C) : FnOk P w K mg base CX0 1 f fd ["row"] (spCbm C) := by
  refine F.ok scCbm (fun vs H Q E h => ?_) (fun cdv A outer s H vs Q E hr h => ?_)
  · obtain ⟨N, p, w, m, u, rfl, _⟩ := h
    rfl
  · obtain ⟨N, p, w, m, u, rfl, hp, hb, hm, k⟩ := h
    obtain ⟨xs, hx, l, e⟩ := At.tupR hp
    refine ⟨_, pss_cons (ps_set (i := 1) scCbm.nd rfl (.inl rfl) pe_int)
      (pss_cons (ps_for PassesOwn.never rfl (pi_tup (pv 0)) (pg_name (i := 2) scCbm.nd rfl (.inl rfl))
        (pss_one (ps_set (i := 1) scCbm.nd rfl (.inl rfl) (pe_callBfun cr_lcm (by rfl) TP.lcm (pa_cons (pv 1) (pa_cons (pe_fld (pv 2) rfl) pa_nil))))))
      (pss_one (ps_ret (pv 1)))), ?_⟩
    refine ⟨_, rfl, p, rfl, ⟨_, SqT.of hx⟩, for_it (walk_tup (K := K) (a := p) (xs := xs)) (fun i σ H' => ∃ y, σ = [some (.ref p), some (.int ((cb u i : Nat) : Int)), y] ∧ H' = H) ⟨none, rfl, rfl⟩ (fun i σ H' _ h => by obtain ⟨_, _, rfl⟩ := h; exact SqT.of hx) ?_ ?_⟩
    · rintro i x σ H1 H2 hi ⟨y, rfl, rfl⟩ ⟨rfl, hx2⟩
      rw [l] at hi
      obtain ⟨x', hx', hd⟩ := e i hi
      rw [hx'] at hx2
      obtain rfl := Option.some.inj hx2
      obtain ⟨q, rfl, dx, hq⟩ := hd.ratV
      have b1 : Bt m ((cb u i : Nat) : Int) := of_bt (cb_up (by omega)) cb_pos hb
      have b2 : Bt m ((u i).den : Int) := of_bt (cb_dvd hi) cb_pos hb
      refine ⟨_, rfl, _, rfl, q, C, dx, _, _, rfl, hq, TR.cl, TR.nB, rf_bot _ _, _, _, rfl, lt13 b1 hm, lt13 b2 hm, some (.ref q), ?_, rfl⟩
      show [_, some (V.int (RT.lcmI ((cb u i : Nat) : Int) ((u i).den : Int))), _] = _
      rw [lcmN]
      rfl
    · rintro σ H1 ⟨y, rfl, rfl⟩
      rw [l]
      exact ⟨_, rfl, k⟩
theorem ok_ta (B : PL.Big P base) {f C : Addr} {fd : FuncData} (F : Fun K "tops_above" "tops_above" sTa f fd) (TR : TxtR K mg C) : FnOk P w K mg base CX0 33 f fd ["row", "bottom"] (spTa C) := by
  refine F.ok scTa (fun vs H Q E h => ?_) (fun cdv A outer s H vs Q E hr32 h => ?_)
  · obtain ⟨N, p, w, b, u, z, rfl, _⟩ := h
    rfl
  · obtain ⟨N, p, w, b, u, z, rfl, hp, al, hw, z0, dv, bz, bt, hb, k⟩ := h
    obtain ⟨xs, hx, l, e⟩ := At.tupR hp
    refine ⟨_, pss_one (ps_ret (pe_lc (own := [("number", 2)]) (g := gName 2) (tt := tYes) rfl scTa.nd (pi_tup (pv 0)) (blkOk_by (N := ["row", "bottom", "number"]) (sc := (defScope sTa)) (by decide +kernel)) (fun _ _ _ _ _ => (pg_name (i := 2) scTa.nd rfl (.inl rfl))) (fun _ _ _ _ _ => pts_nil) (fun _ _ _ _ _ => (pe_op RQ.op_mulH (pe_fldK (K := K) rfl (pv 2) rfl) (pe_op (PL.op_fdivP B hr32 ⟨_, _, rfl, rfl, rfl, rfl, rfl⟩) (pv 1) (pe_fldK (K := K) rfl (pv 2) rfl)))))), ?_⟩
    refine ⟨_, rfl, p, rfl, ⟨_, SqT.of hx⟩, fun D nD => ?_⟩
    refine lc_it (walk_tup (K := K) (a := p) (xs := xs)) (fun i H' => H' D = some (.lst (iV i (topz u z))) ∧ Same H H') ⟨upd_same, Same.upd nD⟩ (fun i H' _ h => SqT.of (h.2 _ _ hx)) ?_ ?_
    · rintro i x H1 H2 hi ⟨hD, s1⟩ ⟨rfl, hx2⟩
      rw [l] at hi
      obtain ⟨x', hx', hd⟩ := e i hi
      rw [hx'] at hx2
      obtain rfl := Option.some.inj hx2
      obtain ⟨q, rfl, dx, hq⟩ := hd.ratV
      have hq := s1 _ _ hq
      have dz := dv i hi
      have nz := VM.den_ne (u i)
      refine ⟨rfl, _, rfl, q, C, dx, _, _, rfl, hq, TR.cl, TR.nT, rf_top _ _, _, rfl, _, rfl, q, C, dx, _, _, rfl, hq, TR.cl, TR.nB, rf_bot _ _, _, _, rfl, rfl, nz, _, _, rfl, rfl, ⟨⟨b, hb, topz_num dz z0 (bt i hi)⟩, ⟨b, hb, fdiv_bt nz dz bz⟩⟩, _, hD, ?_, ?_, fun c o hc => ?_⟩
      · rw [iV_len]
        exact small1000 (by omega)
      · rw [upd_same, iV_succ]
        rfl
      · rw [upd_ne (ne_of_none hc nD)]
        exact s1 _ _ hc
    · rintro H1 ⟨hD, s1⟩
      rw [l] at hD
      exact k D H1 s1 nD (at_ints hD (al.fresh nD))
theorem ok_ra {f fC fT C : Addr} {fd dC dT : FuncData} (F : Fun K "row_above" "row_above" sRa f fd) (cCb : CalN P w K mg base "common_bottom" 1 ["row"] (spCbm C) fC dC) (cTa : CalN P w K mg base "tops_above" 33 ["row", "bottom"] (spTa C) fT dT) : FnOk P w K mg base CX0 34 f fd ["row"] (spRa C) := by
  refine F.ok scRa (fun vs H Q E h => ?_) (fun cdv A outer s H vs Q E hr h => ?_)
  · obtain ⟨N, p, w, m, t, u, rfl, _⟩ := h
    rfl
  · obtain ⟨N, p, w, m, t, u, rfl, hp, al, hw, sz, hm, ht, k⟩ := h
    have hr1 : Room 1 _ := hr.mono (by decide)
    have hr33 : Room 33 _ := hr
    refine ⟨_, pss_cons (ps_set (i := 1) scRa.nd rfl (.inl rfl) (pe_call cCb.G hr1 rfl cCb.m cCb.kp cCb.b .nil pass0 (pa_cons (pv 0) pa_nil)))
      (pss_one (ps_ret (pe_tup (pa_cons (pe_call cTa.G hr33 rfl cTa.m cTa.kp cTa.b .nil pass0 (pa_cons (pv 0) (pa_cons (pv 1) pa_nil))) (pa_cons (pv 1) pa_nil))))), ?_⟩
    have p0 := cb_pos (u := u) (w := w)
    refine ⟨_, rfl, N, p, w, m, u, rfl, hp, sz.b, hm, ?_⟩
    refine ⟨_, rfl, _, rfl, N, p, w, m + t, u, _, rfl, hp, al, hw, by omega, fun j hj => Int.natCast_dvd_natCast.mpr (cb_dvd hj), sz.b.up (by omega), fun j hj => (sz.t j hj).up (by omega), by omega, fun r H1 s1 nr hr1' => ?_⟩
    refine ⟨_, rfl, (by show 2 ≤ sizeLine; decide), fun q nq => ?_⟩
    exact k q _ (s1.trans (Same.upd nq)) (s1.free nq) (At.newT (al.keep (Same.keep (N := N) s1)) nq rfl (itemsC hr1' (items1 (.int _))))
theorem ok_tb {f fC fT C : Addr} {fd dC dT : FuncData} (F : Fun K "table_above" "table_above" sTb f fd) (TP : TxtP mg) (cCb : CalN P w K mg base "common_bottom" 1 ["row"] (spCbm C) fC dC) (cTa : CalN P w K mg base "tops_above" 33 ["row", "bottom"] (spTa C) fT dT) : FnOk P w K mg base CX0 34 f fd ["table"] (spTb C) := by
  refine F.ok scTb (fun vs H Q E h => ?_) (fun cdv A outer s H vs Q E hr h => ?_)
  · obtain ⟨N, p, h, w, m, t, U, rfl, _⟩ := h
    rfl
  · obtain ⟨N, p, h, w, m, t, U, rfl, hp, al, hh, hw, sz, hm, ht, k⟩ := h
    have hr1 : Room 1 _ := hr.mono (by decide)
    have hr33 : Room 33 _ := hr
    obtain ⟨xs, hx, l, e⟩ := At.tupR hp
    refine ⟨_, pss_cons (ps_set (i := 1) scTb.nd rfl (.inr rfl) pe_int)
      (pss_cons (ps_for PassesOwn.never rfl (pi_tup (pv 0)) (pg_name (i := 2) scTb.nd rfl (.inl rfl))
        (pss_one (ps_set (i := 1) scTb.nd rfl (.inr rfl) (pe_callBfun cr_lcm (by rfl) TP.lcm (pa_cons (pv 1) (pa_cons (pe_call cCb.G hr1 rfl cCb.m cCb.kp cCb.b .nil pass0 (pa_cons (pv 2) pa_nil)) pa_nil))))))
      (pss_one (ps_ret (pe_tup (pa_cons (pe_lc (own := [("row", 2)]) (g := gName 2) (tt := tYes) rfl scTb.nd (pi_tup (pv 0)) (blkOk_by (N := ["table", "bottom", "row"]) (sc := (defScope sTb)) (by decide +kernel)) (fun _ _ _ _ _ => (pg_name (i := 2) scTb.nd rfl (.inl rfl))) (fun _ _ _ _ _ => pts_nil) (fun _ _ _ _ _ => (pe_call cTa.G hr33 rfl cTa.m cTa.kp cTa.b .nil pass0 (pa_cons (pv 2) (pa_cons (pv 1) pa_nil))))) (pa_cons (pv 1) pa_nil)))))), ?_⟩
    have p0 := cbt_pos (U := U) (n := w) (h := h)
    refine ⟨_, rfl, p, rfl, ⟨_, SqT.of hx⟩, for_it (walk_tup (K := K) (a := p) (xs := xs)) (fun i σ H' => ∃ y, σ = [some (.ref p), some (.int ((cbt U w i : Nat) : Int)), y] ∧ H' = H) ⟨none, rfl, rfl⟩ (fun i σ H' _ h => by obtain ⟨_, _, rfl⟩ := h; exact SqT.of hx) ?_ ?_⟩
    · rintro i x σ H1 H2 hi ⟨y, rfl, rfl⟩ ⟨rfl, hx2⟩
      rw [l] at hi
      obtain ⟨x', hx', hd⟩ := e i hi
      rw [hx'] at hx2
      obtain rfl := Option.some.inj hx2
      obtain ⟨q, rfl⟩ := hd.tupV
      have b1 : Bt m ((cbt U w i : Nat) : Int) := of_bt (cbt_up (by omega)) cbt_pos sz.b
      have b2 : Bt m ((cb (U i) w : Nat) : Int) := of_bt (cbt_row hi) cbt_pos sz.b
      refine ⟨_, rfl, _, rfl, N, q, w, m, U i, rfl, hd, b2, hm, _, _, rfl, lt13 b1 hm, lt13 b2 hm, some (.ref q), ?_, rfl⟩
      show [_, some (V.int (RT.lcmI ((cbt U w i : Nat) : Int) ((cb (U i) w : Nat) : Int))), _] = _
      rw [lcmN]
      rfl
    · rintro σ H1 ⟨y, rfl, rfl⟩
      rw [l]
      generalize hB : ((cbt U w h : Nat) : Int) = B at sz
      refine ⟨_, rfl, p, rfl, ⟨_, SqT.of hx⟩, fun D nD => ?_⟩
      have nND := al.fresh nD
      refine lc_it (walk_tup (K := K) (a := p) (xs := xs)) (fun i H' => Bld C Emp N H1 D (rng i fun i => intL w (topz (U i) B)) H') (bld0 nD) (fun i H' _ b => SqT.of (b.k.same _ _ hx)) ?_ ?_
      · rintro i x H2 H3 hi b ⟨rfl, hx2⟩
        rw [l] at hi
        obtain ⟨x', hx', hd⟩ := e i hi
        rw [hx'] at hx2
        obtain rfl := Option.some.inj hx2
        obtain ⟨q, rfl⟩ := hd.tupV
        have szb := sz.b
        rw [hB] at szb
        refine ⟨rfl, _, rfl, _, rfl, And1 N D, q, w, m + t, U i, B, rfl, b.old nD (fun _ z => z.elim) hd, b.alc al, hw, by omega, fun j hj => by rw [← hB]; exact Int.natCast_dvd_natCast.mpr (cbt_dvd hi hj), szb.up (by omega), fun j hj => by rw [← hB]; exact (sz.t i hi j hj).up (by omega), by omega, fun r H4 s4 nr hr4 => ?_⟩
        obtain ⟨acc, h1, h2, h3⟩ := b.step nD (Same.keep s4) (fun _ z => z.elim) id hr4
        refine ⟨acc, h1, by rw [h2, rng_len]; exact small1000 (by omega), ?_⟩
        rw [rng_succ]
        exact h3
      · rintro H2 b
        rw [l] at b
        refine ⟨_, rfl, (by show 2 ≤ sizeLine; decide), fun q nq => ?_⟩
        have hL := b.done nND
        have res := At.newT (xs := [.ref D, .int B]) (ds := [.lst (rng h fun i => intL w (topz (U i) B)), .int B]) (al.keep b.k) nq rfl (itemsC hL (items1 (.int _)))
        refine k q _ (b.k.same.trans (Same.upd nq)) (b.k.same.free nq) ?_
        unfold absT
        rw [hB]
        exact res
theorem make4 {C : Addr} {H : Hp} {t b : Int} {R : VK} {E : XK} {x dx : Addr} (hb : b ≠ 0) (nx : H x = none) (nd : H dx = none) (k : ∀ H' : Hp, Same H H' → RatAt C H' x (RT.top t b) (RT.bot t b) → R .non H') :
    spInitB C (.ref x :: ([.int t, .int b] ++ [])) (upd (upd H dx (.own x)) x (.ins C dx [])) R E :=
  ⟨x, dx, t, b, rfl, upd_same, hb, fun H' hR kp => k H' (Same.made nx nd kp) hR⟩
theorem ok_rts {f fI C : Addr} {fd dI : FuncData} (F : Fun K "ratios" "ratios" sRts f fd) (TP : TxtP mg) (TR : TxtR K mg C) (M : Mk K C fI) (GI : FnOk P w K mg base CX0 33 fI dI ["self", "top", "bottom"] (spInitB C)) (bI : Binds K dI ["self", "top", "bottom"] []) : FnOk P w K mg base CX0 35 f fd ["tops", "bottom"] (spRts C) := by
  refine F.ok scRts (fun vs H Q E h => ?_) (fun cdv A outer s H vs Q E hr h => ?_)
  · obtain ⟨N, p, w, z, B, q, rfl, _⟩ := h
    rfl
  · obtain ⟨N, p, w, z, B, q, rfl, hp, al, hw, b0, e, k⟩ := h
    have hr34 : Room 34 _ := hr
    have hx := hp.ints
    refine ⟨_, pss_one (ps_ret (pe_callTy (T := "tuple") call_tuple_of (by rfl) TP.tup (by decide +kernel) (pa_cons (pe_lc (own := [("top", 2)]) (g := gName 2) (tt := tYes) rfl scRts.nd (pi_list (pv 0)) (blkOk_by (N := ["tops", "bottom", "top"]) (sc := (defScope sRts)) (by decide +kernel)) (fun _ _ _ _ _ => (pg_name (i := 2) scRts.nd rfl (.inl rfl))) (fun _ _ _ _ _ => pts_nil) (fun _ _ _ _ _ => (pe_make M GI hr34 rfl TR.mgC bI .nil pass0 (pa_cons (pv 2) (pa_cons (pv 1) pa_nil))))) pa_nil))), ?_⟩
    refine ⟨_, rfl, p, rfl, ⟨_, SqL.of hx⟩, fun D nD => ?_⟩
    have nND := al.fresh nD
    refine lc_it (walk_list (K := K) (a := p) (xs := iV w z)) (fun i H' => Bld C Emp N H D (rng i fun i => .rat (q i)) H') (bld0 nD) (fun i H' _ b => SqL.of (b.k.same _ _ hx)) ?_ ?_
    · rintro i x H2 H3 hi b ⟨rfl, hx2⟩
      obtain ⟨hi, rfl⟩ := iV_lt hx2
      refine ⟨rfl, _, rfl, _, rfl, fun x dx nx nd _ => make4 b0 nx nd fun H4 s4 hR => ⟨rfl, ?_⟩⟩
      obtain ⟨e1, e2⟩ := RQ.low b0 (e i hi)
      rw [e1, e2] at hR
      obtain ⟨acc, h1, h2, h3⟩ := b.step nD (Same.keep s4) (fun _ z => z.elim) id (.rat hR ((b.alc al).fresh nx))
      refine ⟨acc, h1, by rw [h2, rng_len]; exact small1000 (by omega), ?_⟩
      rw [rng_succ]
      exact h3
    · rintro H2 b
      rw [iV_len] at b
      obtain ⟨xs, hD, l2, e2⟩ := (b.done nND).lstE
      refine ⟨D, xs, rfl, .inl ⟨SqL.of hD, fun r nr => ?_⟩⟩
      exact k r _ (b.k.same.trans (Same.upd nr)) (b.k.same.free nr) (At.newT (al.keep b.k) nr l2 e2)
theorem ok_wp {f C : Addr} {fd : FuncData} (F : Fun K "whole_product" "whole_product" sWp f fd) (TP : TxtP mg) (msum : mg "sum" = none) : FnOk P w K mg base CX0 1 f fd ["one", "other"] (spWp C) := by
  refine F.ok scWp (fun vs H Q E h => ?_) (fun cdv A outer s H vs Q E hr h => ?_)
  · obtain ⟨N, p, r, w, z, y, rfl, _⟩ := h
    rfl
  · obtain ⟨N, p, r, w, z, y, rfl, hp, hr', hw, g, k⟩ := h
    have hx := hp.ints
    have hy := hr'.ints
    refine ⟨_, pss_one (ps_ret (pe_callB (cr_sum rfl) (by rfl) msum (by decide +kernel) (pa_cons (pe_lc (own := [("mine", 2), ("its", 3)]) (g := gTup K 2 (gCons (gName 2) (gCons (gName 3) gNil))) (tt := tYes) rfl scWp.nd (pi_zip (by rfl) TP.zip (pa_cons (pv 0) (pa_cons (pv 1) pa_nil))) (blkOk_by (N := ["one", "other", "mine", "its"]) (sc := (defScope sWp)) (by decide +kernel)) (fun _ _ _ _ _ => (pg_tup rfl (pgs_cons (pg_name (i := 2) scWp.nd rfl (.inl rfl)) (pgs_cons (pg_name (i := 3) scWp.nd rfl (.inl rfl)) pgs_nil)))) (fun _ _ _ _ _ => pts_nil) (fun _ _ _ _ _ => (pe_op RQ.op_mulH (pv 2) (pv 3)))) pa_nil))), ?_⟩
    refine ⟨_, rfl, _, rfl, p, r, _, _, rfl, SqL.of hx, SqL.of hy, fun D nD => ?_⟩
    refine lc_it (walk_zip (K := K) (a := p) (b := r) (xs := iV w z) (ys := iV w y) (n := w) (by rw [iV_len, iV_len, Nat.min_self])) (fun i H' => H' D = some (.lst (iV i fun j => z j * y j)) ∧ Same H H') ⟨upd_same, Same.upd nD⟩ (fun i H' _ h => ⟨SqL.of (h.2 _ _ hx), SqL.of (h.2 _ _ hy)⟩) ?_ ?_
    · rintro i v H1 H2 hi ⟨hD, s1⟩ ⟨T, x, x', rfl, nT, rfl, h1, h2⟩
      obtain ⟨_, rfl⟩ := iV_lt h1
      obtain ⟨_, rfl⟩ := iV_lt h2
      have tD : T ≠ D := (ne_of_none hD nT).symm
      refine ⟨T, _, rfl, SqT.of upd_same, rfl, _, _, rfl, _, _, rfl, rfl, ?_⟩
      refine ⟨rfl, _, rfl, _, rfl, _, _, rfl, rfl, g i hi, _, by rw [upd_ne tD.symm]; exact hD, ?_, ?_, fun c o hc => ?_⟩
      · rw [iV_len]
        exact small1000 (by omega)
      · rw [upd_same, iV_succ]
      · have hc1 := s1 _ _ hc
        rw [upd_ne (ne_of_none hc nD), upd_ne (ne_of_none hc1 nT)]
        exact hc1
    · rintro H1 ⟨hD, s1⟩
      refine ⟨D, (List.range w).map fun j => z j * y j, rfl, SqL.of (by rw [List.map_map]; exact hD), ?_⟩
      rw [wsum_list]
      exact k H1 s1
theorem ok_wr {f C : Addr} {fd : FuncData} (F : Fun K "whole_row_times" "whole_row_times" sWr f fd) (T : TxtL mg) (TP : TxtP mg) : FnOk P w K mg base CX0 1 f fd ["row", "square"] (spWr C) := by
  refine F.ok scWr (fun vs H Q E h => ?_) (fun cdv A outer s H vs Q E hr h => ?_)
  · obtain ⟨N, p, r, n, z, y, rfl, _⟩ := h
    rfl
  · obtain ⟨N, p, r, n, z, y, rfl, hp, hr', al, hn, gz, gy, k⟩ := h
    have hx := hp.ints
    obtain ⟨ys, hy, ly, ey⟩ := At.lstR hr'
    refine ⟨_, pss_cons (ps_set (i := 2) scWr.nd rfl (.inl rfl) (pe_op op_rep (pe_lst (pa_cons pe_int pa_nil)) (pe_callB call_len_seq (by rfl) T.len PySem.boot_len (pa_cons (pv 1) pa_nil))))
      (pss_cons (ps_for PassesOwn.never rfl (pi_zip (by rfl) TP.zip (pa_cons (pv 0) (pa_cons (pv 1) pa_nil))) (pg_tup rfl (pgs_cons (pg_name (i := 3) scWr.nd rfl (.inr rfl)) (pgs_cons (pg_name (i := 4) scWr.nd rfl (.inl rfl)) pgs_nil)))
        (pss_one (ps_if (pt_truth (pv 3) (by intro _; rfl))
          (pss_one (ps_setLc (i := 2) (own := [("done", 5), ("more", 6)]) (g := gTup K 2 (gCons (gName 5) (gCons (gName 6) gNil))) (tt := tYes) rfl scWr.nd rfl rfl (sw_true rfl rfl rfl (by decide +kernel)) (pi_zip (by rfl) TP.zip (pa_cons (pv 2) (pa_cons (pv 4) pa_nil))) (blkOk_by (N := ["row", "square", "sums", "number", "line", "done", "more"]) (sc := (defScope sWr)) (by decide +kernel)) (fun _ _ _ _ _ => (pg_tup rfl (pgs_cons (pg_name (i := 5) scWr.nd rfl (.inl rfl)) (pgs_cons (pg_name (i := 6) scWr.nd rfl (.inl rfl)) pgs_nil)))) (fun _ _ _ _ _ => pts_nil) (fun _ _ _ _ _ => (pe_op op_add (pv 5) (pe_op RQ.op_mulH (pv 3) (pv 6))))))
          pss_nil)))
      (pss_one (ps_ret (pv 2)))), ?_⟩
    refine ⟨(by show 1 ≤ sizeLine; decide), fun L nL => ?_⟩
    have sL : Same H (upd H L (.lst [.int 0])) := Same.upd nL
    refine ⟨_, rfl, r, ys, rfl, .inl (SqL.of (sL _ _ hy)), L, _, _, rfl, rfl, upd_same, by omega, by rw [ly]; omega, ?_, fun D nD => ?_⟩
    · rw [ly]
      show 1 * _ ≤ sizeLine
      rw [Nat.one_mul, Int.toNat_natCast]
      exact Nat.le_of_lt (small1000 hn)
    have e0 : (List.replicate (((ys.length : Nat) : Int).toNat) [V.int 0]).flatten = iV n fun _ => 0 := by
      rw [Int.toNat_natCast, ly]
      exact zeros_iV
    have sD := sL.trans (Same.upd (o := .lst ((List.replicate (((ys.length : Nat) : Int).toNat) [V.int 0]).flatten)) nD)
    refine ⟨_, rfl, _, rfl, p, r, _, _, rfl, SqL.of (sD _ _ hx), SqL.of (sD _ _ hy), for_it (walk_zip (K := K) (a := p) (b := r) (xs := iV n z) (ys := ys) (n := n) (by rw [iV_len, ly, Nat.min_self])) (fun i σ H' => ∃ q o3 o4, σ = [some (.ref p), some (.ref r), some (.ref q), o3, o4, none, none] ∧ H' q = some (.lst (iV n fun j => wsum z (fun i => y i j) i)) ∧ H q = none ∧ Same H H')
      ⟨D, none, none, rfl, by rw [upd_same, e0]; rfl, sL.free nD, sD⟩ (fun i σ H' _ h => by obtain ⟨_, _, _, _, _, _, s⟩ := h; exact ⟨SqL.of (s _ _ hx), SqL.of (s _ _ hy)⟩) ?_ ?_⟩
    · rintro i v σ H1 H2 hi ⟨q, o3, o4, rfl, hq, nq, s1⟩ ⟨T', x, x', rfl, nT, rfl, h1, h2⟩
      obtain ⟨_, rfl⟩ := iV_lt h1
      obtain ⟨x2, hx2, hd⟩ := ey i hi
      have h2 : ys[i]? = some x' := h2
      rw [hx2] at h2
      obtain rfl := Option.some.inj h2
      obtain ⟨ln, rfl⟩ := hd.lstV
      have hln := hd.ints
      have sT : Same H1 (upd H1 T' (.tup [.int (z i), .ref ln])) := Same.upd nT
      refine ⟨T', _, rfl, SqT.of upd_same, rfl, _, _, rfl, _, _, rfl, rfl, ?_⟩
      refine ⟨_, rfl, _, rfl, ?_⟩
      by_cases z0 : z i = 0
      · rw [show ((z i != 0) : Bool) = false by rw [z0]; rfl]
        refine iteF ⟨q, _, _, rfl, ?_, nq, s1.trans sT⟩
        rw [sT _ _ hq]
        congr 3
        funext j
        show _ = wsum z (fun i => y i j) i + z i * y i j
        rw [z0, Int.zero_mul, Int.add_zero]
      · rw [show ((z i != 0) : Bool) = true from bne_iff_ne.mpr z0]
        refine iteT ?_
        refine ⟨_, rfl, _, rfl, q, ln, _, _, rfl, SqL.of (sT _ _ hq), SqL.of (sT _ _ (s1 _ _ hln)), fun G nG => ?_⟩
        have hq2 := sT _ _ hq
        have hl2 := sT _ _ (s1 _ _ hln)
        generalize upd H1 T' (.tup [.int (z i), .ref ln]) = H2 at *
        refine lc_it (walk_zip (K := K) (a := q) (b := ln) (xs := iV n fun j => wsum z (fun i => y i j) i) (ys := iV n (y i)) (n := n) (by rw [iV_len, iV_len, Nat.min_self])) (fun j H' => H' G = some (.lst (iV j fun j => wsum z (fun i => y i j) (i + 1))) ∧ Same H2 H') ⟨upd_same, Same.upd nG⟩ (fun j H' _ h => ⟨SqL.of (h.2 _ _ hq2), SqL.of (h.2 _ _ hl2)⟩) ?_ ?_
        · rintro j v H3 H4 hj ⟨hG, s3⟩ ⟨T2, x, x', rfl, nT2, rfl, h1, h2⟩
          obtain ⟨_, rfl⟩ := iV_lt h1
          obtain ⟨_, rfl⟩ := iV_lt h2
          have tD : T2 ≠ G := (ne_of_none hG nT2).symm
          refine ⟨T2, _, rfl, SqT.of upd_same, rfl, _, _, rfl, _, _, rfl, rfl, ?_⟩
          refine ⟨rfl, _, rfl, _, rfl, _, rfl, _, _, rfl, rfl, ⟨gz i hi, gy i hi j hj⟩, _, _, rfl, rfl, _, by rw [upd_ne tD.symm]; exact hG, ?_, ?_, fun c o hc => ?_⟩
          · rw [iV_len]
            exact small1000 (by omega)
          · rw [upd_same, iV_succ]
            rfl
          · have hc1 := s3 _ _ hc
            rw [upd_ne (ne_of_none hc nG), upd_ne (ne_of_none hc1 nT2)]
            exact hc1
        · rintro H3 ⟨hG, s3⟩
          exact ⟨G, _, _, rfl, hG, (s1.trans sT).free nG, (s1.trans sT).trans s3⟩
    · rintro σ H1 ⟨q, o3, o4, rfl, hq, nq, s1⟩
      exact ⟨_, rfl, k q H1 s1 nq (at_ints hq (al.fresh nq))⟩
end
end RX

set_option Elab.async false
set_option linter.all false
set_option maxRecDepth 100000
/-! letters: "abcd"[i] and "abcd".index(x) -/
namespace LX
open PySem PySem.Spec PyProof.Rows L2
abbrev abcd : Str := "abcd"
def ltr (i : Nat) : Str := ⟨#[97 + i]⟩
theorem abcd_at {i : Nat} (h : i < 4) : atI abcd.cps.toList (i : Int) = some (97 + i) := by
  have all : ∀ i : Nat, i < 4 → atI abcd.cps.toList (i : Int) = some (97 + i) := by decide +kernel
  exact all i h
theorem abcd_len : abcd.length ≤ sizeLine := by
  have e : abcd.length = 4 := by decide +kernel
  rw [e]
  decide
theorem found {i : Nat} (h : i < 4) : ∃ rest, Builtin.Str.occurrences abcd (ltr i) 0 abcd.length 1 = i :: rest := by
  have all : ∀ i, i < 4 → Builtin.Str.occurrences abcd (ltr i) 0 abcd.length 1 = [i] := by decide +kernel
  exact ⟨[], all i h⟩
def rLetter : V → List V → Hp → VK → Prop := fun x xs H Q => ∃ i : Nat, i < 4 ∧ x = .str abcd ∧ xs = [.str (ltr i)] ∧ Q (.int (i : Nat)) H
theorem mt_letter {X : Cx} : MtR X "str.index" rLetter := by
  intro pins s σ H x xs v us Q I rx rel told
  obtain ⟨i, lt, rfl, rfl, q⟩ := told
  obtain ⟨t, rfl⟩ := rx
  obtain ⟨_, rfl, u, rfl⟩ := vals1 rel
  obtain ⟨rest, at_i⟩ := found lt
  exact PySem.SC.index at_i ⟨.int (i : Nat), H, I.tok _, ⟨_, rfl⟩, q⟩
theorem ltr_inj {i j : Nat} : ltr i = ltr j ↔ i = j := by
  unfold ltr
  constructor
  · intro h
    injection h with h
    have := congrArg (fun (a : Array Nat) => a[0]?) h
    simp at this
    exact this
  · intro h
    rw [h]
end LX
namespace LX
open PySem
/-- the word with the letters w (0 for a) -/
def wd (w : List Nat) : Str := ⟨(w.map (97 + ·)).toArray⟩
theorem wd_len {w : List Nat} : (wd w).length = w.length := by
  unfold wd Str.length
  simp
theorem wd_cps {w : List Nat} : (wd w).cps.toList = w.map (97 + ·) := rfl
theorem wd_at {w : List Nat} {i : Nat} : (wd w).cps[i]? = w[i]?.map (97 + ·) := by
  unfold wd
  simp
theorem wd_append {u v : List Nat} : wd u ++ wd v = wd (u ++ v) := by
  show Str.append (wd u) (wd v) = _
  unfold Str.append wd
  simp
theorem wd_nil : wd [] = Str.empty := rfl
theorem wd_one {i : Nat} : wd [i] = ltr i := rfl
theorem wd_inj : ∀ {u v : List Nat}, wd u = wd v → u = v := by
  intro u v h
  have e : u.map (97 + ·) = v.map (97 + ·) := congrArg (fun s : Str => s.cps.toList) h
  have go : ∀ (u v : List Nat), u.map (97 + ·) = v.map (97 + ·) → u = v := by
    intro u
    induction u with
    | nil =>
      intro v h
      cases v with
      | nil => rfl
      | cons y v => cases h
    | cons x u ih =>
      intro v h
      cases v with
      | nil => cases h
      | cons y v =>
        rw [List.map_cons, List.map_cons] at h
        injection h with h1 h2
        rw [ih v h2, Nat.add_left_cancel h1]
  exact go u v e
theorem strjoin_wd : ∀ {w : List Nat}, Str.join Str.empty (w.map ltr) = wd w
  | [] => rfl
  | [x] => rfl
  | x :: y :: w => by
    show ltr x ++ Str.empty ++ Str.join Str.empty ((y :: w).map ltr) = _
    rw [strjoin_wd (w := y :: w)]
    show Str.append (Str.append (ltr x) Str.empty) (wd (y :: w)) = wd (x :: y :: w)
    unfold Str.append wd ltr Str.empty
    simp
theorem join_wd {w : List Nat} : Txt.join (Str.ofString "") (w.map ltr) = wd w := by
  have e : Str.ofString "" = Str.empty := by decide +kernel
  show Builtin.Str.glued (Str.ofString "") (w.map ltr) = _
  rw [StrLaws.glued_eq_join, e]
  exact strjoin_wd
end LX

set_option Elab.async false
set_option linter.all false
set_option maxRecDepth 100000
/-! the first k letters: the place of a letter -/
namespace LX
open PySem PySem.Spec PyProof.Rows L2
/-- the string of the first k letters -/
def abK (k : Nat) : Str := ⟨((List.range k).map (97 + ·)).toArray⟩
theorem foundK {k i : Nat} (hk : k ≤ 4) (h : i < k) : ∃ rest, Builtin.Str.occurrences (abK k) (ltr i) 0 (abK k).length 1 = i :: rest := by
  have all : ∀ k, k ≤ 4 → ∀ i, i < k → Builtin.Str.occurrences (abK k) (ltr i) 0 (abK k).length 1 = [i] := by decide +kernel
  exact ⟨[], all k hk i h⟩
def rLetterK : V → List V → Hp → VK → Prop := fun x xs H Q => ∃ k i : Nat, k ≤ 4 ∧ i < k ∧ x = .str (abK k) ∧ xs = [.str (ltr i)] ∧ Q (.int (i : Nat)) H
theorem mt_letterK {X : Cx} : MtR X "str.index" rLetterK := by
  intro pins s σ H x xs v us Q I rx rel told
  obtain ⟨k, i, hk, lt, rfl, rfl, q⟩ := told
  obtain ⟨t, rfl⟩ := rx
  obtain ⟨_, rfl, u, rfl⟩ := vals1 rel
  obtain ⟨rest, at_i⟩ := foundK hk lt
  exact PySem.SC.index at_i ⟨.int (i : Nat), H, I.tok _, ⟨_, rfl⟩, q⟩
theorem ltr_wd {i : Nat} : wd [i] = ltr i := rfl
theorem mem_abK {k i : Nat} (h : i < k) : 97 + i ∈ (abK k).cps.toList := by
  unfold abK
  simp
  exact h
theorem abK_len {k : Nat} : (abK k).length = k := by
  unfold abK Str.length
  simp
end LX

set_option Elab.async false
set_option linter.all false
set_option maxRecDepth 100000
set_option maxHeartbeats 1000000
/-! for x in reversed(a string) -/
namespace RS
open PySem PySem.Spec PyProof.Rows L2
theorem str_norev : typeLookup (.type "str") "__reversed__" = pure none := by
  rw [typeLookup_type, builtinLookup_eq_fast]
  kernel_rfl
theorem str_get : typeLookup (.type "str") "__getitem__" = pure (some (.builtin "str.__getitem__")) := by
  rw [typeLookup_type, builtinLookup_eq_fast]
  kernel_rfl
/-- reversed(x) stands at a, the next place is i -/
def Back (h : Heap) (a : Addr) (x : Str) (t : Tok) (i : Int) : Prop := ∃ o, h.get? a = some o ∧ o.cls = .type "reversed" ∧ o.data = .fields #[.str x t, rawInt i]
theorem Back.at {h h' : Heap} {a : Addr} {x : Str} {t : Tok} {i : Int} (b : Back h a x t i) (e : ∀ o, h.get? a = some o → h'.get? a = some o) : Back h' a x t i :=
  let ⟨o, ho, r⟩ := b
  ⟨o, e _ ho, r⟩
def backO (x : Str) (t : Tok) (i : Int) : Obj := { cls := .type "reversed", data := .fields #[.str x t, rawInt i] }
section
variable {x : Str} {t : Tok} {s : Shared} {prog : Program} {w : World} {A : Around} {E : Value → Shared → Prop}
theorem Back.ty {a : Addr} {i : Int} (b : Back s.heap a x t i) : s.TypeIs (.ref a) "reversed" :=
  let ⟨o, ho, hc, _⟩ := b
  ⟨o, ho, hc⟩
theorem new_back {R : Value → Shared → Prop} (short : x.length ≤ sizeLine) (then_ : R (.ref s.heap.objs.size) { s with heap := s.heap.push (backO x t ((x.length : Int) - 1)), toks := s.toks + 1 + 1 }) :
    codeAny (model prog w) A (.call (.builtin "reversed.__new__") ⟨[.type "reversed", .str x t], []⟩) (wants R E) s := by
  have hT : s.TypeIs (.str x t) "str" := typeIs_str s x t
  have l63 := line63
  refine codeAny_of_tree ?_
  show wpAny _ A.in1 (checkBuiltinCall "reversed.__new__" ⟨[.type "reversed", .str x t], []⟩ >>= fun _ => again (.builtin "reversed.__new__" ⟨[.type "reversed", .str x t], []⟩)) _ _ s
  refine wpAny_bind (wpAny_of_eq (F.newCall_reversed_1 _) (wpAny_pure ?here))
  case here =>
    refine And.intro (plainId_quiet F.plain_reversed_new _) (codeAny_builtin F.entry_reversed_new ?_)
    have plain := F.plain_reversed_new
    rw [Around.under_plainId plain _]
    unfold Builtin.«reversed.__new__»
    refine wpAny_bind (wpAny_of_eq (newClass_reversed _) ?a1)
    case a1 =>
    try dsimp only
    refine wpAny_bind (wpAny_of_eq (a := ()) (by first | rfl | kernel_rfl) ?a2)
    case a2 =>
    try dsimp only
    refine wpAny_bind (wpAny_of_eq (a := ()) (by first | rfl | kernel_rfl) ?a3)
    case a3 =>
    try dsimp only
    refine wpAny_bind (wpAny_specialOf hT str_norev ?_)
    try dsimp only
    refine wpAny_bind ?_
    wp_delta
    refine wpAny_bind (wpAny_isInstance (U := "dict") hT PySem.F.sub_str_dict ?_)
    try dsimp only
    try rw [if_neg Bool.false_ne_true]
    try dsimp only
    refine wpAny_bind (wpAny_specialOf hT str_get ?_)
    try dsimp only
    try rw [if_pos (by decide +kernel)]
    refine wpAny_pure ?_
    try dsimp only
    try rw [if_neg (by decide)]
    try dsimp only
    refine wpAny_bind (PySem.P.len_str (by omega) ?_)
    refine wpAny_bind (wpAny_of_eq (a := some ((x.length : Nat) : Int)) rfl ?_)
    try dsimp only
    refine wpAny_bind ?_
    show wpAny _ _ (newObj (.type "reversed") (.fields #[.str x t, rawInt ((x.length : Int) - 1)])) _ _ _
    exact wpAny_newObj_type (wpAny_pure then_)
theorem call_back {Q : Value → Shared → Prop} (short : x.length ≤ sizeLine) (then_ : Q (.ref s.heap.objs.size) { s with heap := s.heap.push (backO x t ((x.length : Int) - 1)), toks := s.toks + 1 + 1 }) :
    wpAny (model prog w) A (call (.type "reversed") [.str x t]) Q E s := by
  refine callType_codes (Q₁ := fun o s1 => s1.TypeIs o "reversed" ∧ Q o s1) RT.called_rt (F.typeCall_reversed_1 _) F.entry_object_init (new_back short ⟨⟨_, Heap.get?_push_size _ rfl, rfl⟩, then_⟩) ?_
  rintro o s1 ⟨h1, h2⟩
  exact ⟨h1, F.args_object_init_2 o _, object_init_meets RT.called_rt.init.lookup RT.called_rt.made (by decide) prog w A.in1 _ s1 ⟨h1, rfl, h2⟩⟩
theorem back_item {it : Addr} {i c : Nat} {Q : Option Value → Shared → Prop} (hit : Back s.heap it x t (i : Int)) (short : x.length ≤ sizeLine) (hi : i < x.length) (hx : x.cps[i]? = some c)
    (then_ : ∀ h', Back h' it x t ((i : Int) - 1) → Heap.SameBut it s.heap h' → Q (some (.str ⟨#[c]⟩ (s.toks + 1))) { s with heap := h', toks := s.toks + 1 + 1 }) : wpAny (model prog w) A (pyNext (.ref it)) Q E s := by
  obtain ⟨o, ho, hc, hd⟩ := id hit
  have hT : s.TypeIs (.str x t) "str" := typeIs_str s x t
  have l63 := line63
  unfold pyNext
  refine wpAny_bind (wpAny_attempt (wpAny_callSpecial?_slot (name := Str.ofString "__next__") hit.ty RT.slot_rt_next (wpAny_call_entry RT.slot_rt_next hit.ty RT.entry_rt_next ?_ (RT.args_rt_next _))))
  unfold Builtin.«reversed.__next__»
  refine wpAny_bind (wpAny_of_eq (a := (Value.ref it, [])) rfl ?b1)
  case b1 =>
  try dsimp only
  refine wpAny_bind (wpAny_field ho hd (x := Value.str x t) rfl ?_)
  try dsimp only
  refine wpAny_bind (wpAny_field ho hd (x := rawInt (i : Int)) rfl ?b2)
  case b2 =>
  show wpAny _ A.in1 (if (i : Int) < 0 then _ else _) _ _ s
  rw [if_neg (by omega)]
  try dsimp only
  refine wpAny_bind (wpAny_specialOf hT str_get ?_)
  try dsimp only
  try rw [if_neg (by decide)]
  try dsimp only
  refine wpAny_bind (wpAny_mkInt ?_)
  refine wpAny_bind (wpAny_attempt ?_)
  have at_i : seqIndex? (i : Int) x.length = some i := seqIndex_of (by omega) (by omega)
  refine PySem.P.getItem_str (s := { s with toks := s.toks + 1 }) (c := c) (by
    rw [decide_eq_false (by omega), decide_eq_false (by omega)]
    rfl) (by rw [at_i]; exact hx) ?_
  try dsimp only
  refine wpAny_bind (wpAny_field (s := { s with toks := s.toks + 1 + 1 }) ho hd (x := rawInt (i : Int)) rfl ?b3)
  case b3 =>
  try dsimp only
  refine wpAny_bind (wpAny_setField (s := { s with toks := s.toks + 1 + 1 }) ho hd (by simp) ?b4)
  case b4 =>
  have put : Back (s.heap.update it (Obj.mapFields (·.setIfInBounds 1 (rawInt ((i : Int) - 1))))) it x t ((i : Int) - 1) :=
    ⟨_, Heap.get?_update_self _ ho (Obj.isFreed_of_fields (Obj.data_mapFields hd _)), (Obj.cls_mapFields ..).trans hc, by rw [Obj.data_mapFields hd]; simp⟩
  first
    | exact wpAny_pure ⟨_, rfl, wpAny_pure (then_ _ put (Heap.SameBut.update ..))⟩
    | exact wpAny_bind (wpAny_pure (wpAny_pure ⟨_, rfl, wpAny_pure (then_ _ put (Heap.SameBut.update ..))⟩))
theorem back_end {it : Addr} {Q : Option Value → Shared → Prop} (calm : A.handled = none) (hit : Back s.heap it x t (-1)) (then_ : ∀ h', Heap.ExtBut it s.heap h' → Q none { s with heap := h' }) : wpAny (model prog w) A (pyNext (.ref it)) Q E s := by
  obtain ⟨o, ho, hc, hd⟩ := id hit
  unfold pyNext
  refine wpAny_bind (wpAny_attempt (wpAny_callSpecial?_slot (name := Str.ofString "__next__") hit.ty RT.slot_rt_next (wpAny_call_entry RT.slot_rt_next hit.ty RT.entry_rt_next ?_ (RT.args_rt_next _))))
  unfold Builtin.«reversed.__next__»
  refine wpAny_bind (wpAny_of_eq (a := (Value.ref it, [])) rfl ?b1)
  case b1 =>
  try dsimp only
  refine wpAny_bind (wpAny_field ho hd (x := Value.str x t) rfl ?_)
  try dsimp only
  refine wpAny_bind (wpAny_field ho hd (x := rawInt (-1)) rfl ?b2)
  case b2 =>
  show wpAny _ A.in1 (if (-1 : Int) < 0 then _ else _) _ _ s
  rw [if_pos (by decide)]
  try dsimp only
  refine wpAny_bind (wpAny_rule ?_)
  refine wpAny_bind ?_
  wp_delta
  refine wpAny_bind (wpAny_setField ho hd (by simp) ?b8)
  case b8 =>
  have once := Heap.get?_update_self (Obj.mapFields (·.setIfInBounds 1 (rawInt (-1)))) ho (Obj.isFreed_of_fields (Obj.data_mapFields hd _))
  refine wpAny_setField (s := { s with heap := s.heap.update it (Obj.mapFields (·.setIfInBounds 1 (rawInt (-1)))) }) once (Obj.data_mapFields hd _) (by simp) ?b5
  case b5 =>
  try dsimp only
  first
    | (show wpAny _ _ (newExc (.type "StopIteration") [] >>= _) _ _ _)
    | (refine wpAny_bind ?_
       show wpAny _ _ (newExc (.type "StopIteration") [] >>= _) _ _ _)
    | (refine wpAny_bind ?_
       wp_delta
       show wpAny _ _ (newExc (.type "StopIteration") [] >>= _) _ _ _)
  refine wpAny_bind ?_
  simp only [newExc, newTuple]
  refine wpAny_bind (wpAny_newObj_type ?b9 (by size_fits))
  case b9 =>
  refine wpAny_bind (m := firstArgMember _ _) (wpAny_of_eq (a := Value.none) (by first | rfl | (simp only [firstArgMember]; rfl)) ?b6)
  case b6 =>
  refine wpAny_newObj_type ?_ (by size_fits)
  simp only [raiseNew]
  refine wpAny_bind (wpAny_handled ?_)
  first | rw [show A.in1.handled = none from calm] | rw [calm]
  refine wpAny_bind (wpAny_pure (wpAny_throw ?b10))
  case b10 =>
  refine wpAny_bind (wpAny_isInstance (T := "StopIteration") (b := true) ⟨_, Heap.get?_push_size _ rfl, rfl⟩ isSubtype_stop ?b7)
  case b7 =>
  refine wpAny_pure (then_ _ ?_)
  have kept : Heap.ExtBut it s.heap ((s.heap.update it (Obj.mapFields (·.setIfInBounds 1 (rawInt (-1))))).update it (Obj.mapFields (·.setIfInBounds 0 Value.none))) :=
    fun b ob hb e => (Heap.get?_update_other _ _ (Ne.symm hb)).trans ((Heap.get?_update_other _ _ (Ne.symm hb)).trans e)
  exact (kept.push _).push _
theorem iter_back {it : Addr} {i : Int} {Q : Value → Shared → Prop} (hit : Back s.heap it x t i) (then_ : Q (.ref it) s) : wpAny (model prog w) A (pyIter (.ref it)) Q E s := by
  refine wpAny_pyIter_slot hit.ty RT.slot_rt_iter (wpAny_call_entry RT.slot_rt_iter hit.ty RT.entry_rt_iter ?_ (RT.args_rt_iter _))
  show wpAny _ _ (ret (.ref it)) _ _ s
  exact wpAny_pure ⟨_, rfl, "reversed", _, hit.ty, RT.slot_rt_next.lookup, then_⟩
end
/-- the letters of x from its end -/
def Itb (x : Str) : It := ⟨fun i _ => i < x.length, fun i H v H' => H' = H ∧ ∃ c, x.cps[x.length - 1 - i]? = some c ∧ v = .str ⟨#[c]⟩, fun i _ => x.length ≤ i⟩
theorem turn_back {P : Program} {w : World} {K : PySem.W.Frag} {tg : Expr} (it : Addr) (x : Str) (t : Tok) (short : x.length ≤ sizeLine) : Turn P w K tg (Itb x) [it] it (fun i h => i ≤ x.length ∧ Back h it x t ((x.length : Int) - 1 - (i : Nat))) where
  mem := by simp
  obj := fun i h st b hb => by
    obtain rfl : b = it := by simpa using hb
    obtain ⟨_, o, e, c, d⟩ := st
    refine ⟨o, e, fun v z => ?_⟩
    rw [d] at z
    cases z
  keep := fun i h h' st kept => ⟨st.1, st.2.at fun o e => kept it (by simp) o e⟩
  item := by
    intro Y hP hw hK hc i pins s σ H E I hf st hg
    subst hP hw hK
    have lt : i < x.length := hg
    obtain ⟨f0, f1, -, f3, f4, f5⟩ := hf it (by simp)
    obtain ⟨_, hit⟩ := st
    have back : (x.length : Int) - 1 - ((i : Nat) : Int) = ((x.length - 1 - i : Nat) : Int) := by omega
    rw [back] at hit
    have there : x.length - 1 - i < x.cps.size := by show x.length - 1 - i < x.length; omega
    refine back_item hit short (by omega) (Array.getElem?_eq_getElem there) fun h' st' sb => ?_
    have next : ((x.length - 1 - i : Nat) : Int) - 1 = (x.length : Int) - 1 - ((i + 1 : Nat) : Int) := by omega
    rw [next] at st'
    have I1 : Inv Y pins σ H { s with heap := h', toks := s.toks + 1 + 1 } := I.turned (t' := s.toks + 1 + 1) (fun b o hb e => (sb.2 b hb).trans e) f0 f1 f3 f4 f5
    obtain ⟨o, e, c, d⟩ := id st'
    exact ⟨_, rfl, go_of (s := { s with heap := h', toks := s.toks + 1 + 1 }) e c d (by decide) ⟨.str ⟨#[x.cps[x.length - 1 - i]]⟩, H, I1, ⟨_, rfl⟩, ⟨rfl, _, Array.getElem?_eq_getElem there, rfl⟩, ⟨lt, st'⟩, fun b hb => (hf b hb).1⟩⟩
  done := by
    intro Y hP hw hK hc i pins s σ H E I hf st hg
    subst hP hw hK
    obtain ⟨f0, f1, -, f3, f4, f5⟩ := hf it (by simp)
    obtain ⟨le, hit⟩ := st
    have ge : x.length ≤ i := hg
    have stop : (x.length : Int) - 1 - ((i : Nat) : Int) = -1 := by omega
    rw [stop] at hit
    exact back_end (I.ok.hd hc) hit fun h' eb => ⟨rfl, I.turned (t' := s.toks) (fun b o hb e => eb b o hb e) f0 f1 f3 f4 f5⟩
  self := fun A i s Q E st h => iter_back st.2 h
def iBack (ta : TA) : TI := fun σ H R => ta σ H fun vs H1 => ∃ x : Str, vs = [.str x] ∧ x.length ≤ sizeLine ∧ R (Itb x) H1
theorem pi_back {X : Cx} {tg e : Expr} {ta : TA} {p pos : Pos} (hg : Gl X "reversed") (hm : X.mg "reversed" = none) (ha : PA X [e] ta) (hs : starEach [e] X.env = [(false, eval e X.env)] := by rfl) : PI X tg (.Call (.Name "reversed" p) [e] [] pos) (iBack ta) := by
  refine ⟨fun pins s σ H R I told => ?_⟩
  refine Call_ (ld_blt I hg hm PyProof.Rows.boot_reversed (PyProof.Rows.callWith_type1 (thn (ha.run pos pins s σ H _ I told) ?_) hs rfl))
  rintro us s1 ⟨vs, H1, I1, rel, x, rfl, short, q⟩
  obtain ⟨u, rfl, t, rfl⟩ := vals1 rel
  have e0 : (x.length : Int) - 1 = (x.length : Int) - 1 - ((0 : Nat) : Int) := by omega
  refine call_back short (iter_back (x := x) (t := t) (i := (x.length : Int) - 1) ⟨_, Heap.get?_push_size _ rfl, rfl, rfl⟩ ?_)
  refine pi_one (tk := s1.toks + 1 + 1) I1 _ (turn_back _ x t short) ⟨Nat.zero_le _, ?_⟩ q
  rw [← e0]
  have laid := Heap.get?_push_size (h := s1.heap) (o := backO x t ((x.length : Int) - 1)) rfl
  exact ⟨_, laid, rfl, rfl⟩
end RS

set_option Elab.async false
set_option linter.all false
set_option maxRecDepth 100000
/-! range(n) as a value, walked later; either of two walks; calls of instances -/
namespace XC
open PySem PySem.Spec PyProof.Rows L2
section
variable {X : Cx} {tg : Expr}
theorem cr_range1 : CallR X (.type "range") (fun vs H Q => ∃ j, vs = [V.int j] ∧ ∀ p, H p = none → Q (.ref p) (upd H p (.rng 0 j))) := by
  intro pins s σ H vs us Q I r h
  obtain ⟨j, rfl, q⟩ := h
  obtain ⟨u1, rfl, t, rfl⟩ := vals1 r
  refine call_range_1 ⟨.ref s.heap.objs.size, upd H s.heap.objs.size (.rng 0 j), I.laid (t' := s.toks + 1 + 1) (fun b o e => Heap.get?_push_of_some _ e) (Nat.le_refl _) ?_, rfl, q _ (I.hok.fresh (Nat.le_refl _))⟩
  exact ⟨_, _, _, Heap.get?_push_size _ rfl⟩
def iRngO (te : TE) : TI := fun σ H R => te σ H fun v H1 => ∃ (a : Addr) (lo hi : Int), v = .ref a ∧ H1 a = some (.rng lo hi) ∧ -(2 ^ 62) ≤ lo ∧ lo < 2 ^ 62 ∧ -(2 ^ 62) ≤ hi ∧ hi < 2 ^ 62 ∧ R (Itr lo (hi - lo).toNat) H1
theorem pi_rng {e : Expr} {te : TE} (he : PE X e te) : PI X tg e (iRngO te) := by
  refine ⟨fun pins s σ H R I h => ?_⟩
  refine thn (he.run pins s σ H _ I h) fun v s1 ⟨x, H1, I1, r1, a, lo, hi, ex, ha, h1, h2, h3, h4, q⟩ => ?_
  subst ex
  obtain rfl : v = Value.ref a := r1
  obtain ⟨t1, t2, t3, ho⟩ := I1.hok a _ ha
  refine wpAny_pyIter_range ho (small_one h1 h2 h3 h4) ?_
  refine ⟨s1.heap.objs.size, [s1.heap.objs.size], _, _, H1, rfl, I1.kept (t' := s1.toks) fun b o e => Heap.get?_push_of_some _ e, turn_range _ lo (hi - lo).toNat, ?_, fun b hb => ?_, q⟩
  · have e1 : lo + ((0 : Nat) : Int) * 1 = lo := by simp
    have e2 : (((hi - lo).toNat : Nat) : Int) - ((0 : Nat) : Int) = Builtin.Range.rangeSize lo hi 1 := by rw [rangeSize_one]; split <;> omega
    show IsRangeIter _ _ (lo + ((0 : Nat) : Int) * 1) ((((hi - lo).toNat : Nat) : Int) - ((0 : Nat) : Int)) 1
    rw [e1, e2]
    exact Heap.get?_push_size _ rfl
  · have e : b = s1.heap.objs.size := by simpa using hb
    subst e
    exact I1.fpOk (Nat.le_refl _) (I1.hok.fresh (Nat.le_refl _))
/-- either walk -/
theorem pi_or {e : Expr} {w1 w2 : TI} (h1 : PI X tg e w1) (h2 : PI X tg e w2) : PI X tg e (fun σ H R => w1 σ H R ∨ w2 σ H R) :=
  ⟨fun pins s σ H R I h => h.elim (h1.run pins s σ H R I) (h2.run pins s σ H R I)⟩
end
end XC

set_option Elab.async false
set_option maxRecDepth 100000
namespace RX
open PySem L2 LX
/-! ### letters of words -/
abbrev sAlpha : Stmt := topS 31
theorem scAl : FnScope ["letters"] ["letters"] (defScope sAlpha) := ⟨rfl, rfl, rfl, by decide +kernel, rfl, by decide +kernel, by decide +kernel⟩
abbrev sCw : Stmt := topS 32
theorem scCw : FnScope ["letters", "word", "known", "sign"] ["letters", "word"] (defScope sCw) := ⟨rfl, rfl, rfl, by decide +kernel, rfl, by decide +kernel, by decide +kernel⟩
/-- letters below k -/
def Ltk (k : Nat) (u : List Nat) : Prop := ∀ x ∈ u, x < k
def spAl : Sp := fun vs H Q _ => ∃ k : Nat, vs = [.int (k : Int)] ∧ 1 ≤ k ∧ k ≤ 4 ∧ Q (.str (abK k)) H
def spCw : Sp := fun vs H Q _ => ∃ (k : Nat) (u : List Nat), vs = [.int (k : Int), .str (wd u)] ∧ 1 ≤ k ∧ k ≤ 4 ∧ Ltk k u ∧ Q .non H
def rLenS (K : PySem.W.Frag) : List V → Hp → VK → Prop := fun xs H Q => ∃ p ys, xs = [.ref p] ∧ (SqL K H p ys ∨ SqT K H p ys) ∧ Q (.int ys.length) H
theorem call_len_seqK {X : Cx} : CallR X (.builtin "len") (rLenS X.K) := call_len_seq
section
variable {P : Program} {w : World} {K : PySem.W.Frag} {mg : Str → Option Value} {base : Heap}
theorem ok_al {f : Addr} {fd : FuncData} {t : Tok} (F : Fun K "alphabet" "alphabet" sAlpha f fd) (mL : mg "LETTERS" = some (.str "abcd" t)) : FnOk P w K mg base CX0 1 f fd ["letters"] spAl := by
  refine F.ok scAl (fun vs H Q E h => ?_) (fun cdv A outer s H vs Q E hr h => ?_)
  · obtain ⟨k, rfl, _⟩ := h
    rfl
  · obtain ⟨k, rfl, k1, k4, kk⟩ := h
    refine ⟨_, pss_one (ps_ret (pe_slice sl_str (pe_glob (v := .str "abcd") (by rfl) mL ⟨_, rfl⟩) po_none (po_some (pv 0)))), ?_⟩
    refine ⟨_, rfl, _, rfl, _, rfl, abcd_len, ?_⟩
    have all : ∀ k : Nat, k ≤ 4 → cutS abcd none (some (k : Int)) = abK k := by decide +kernel
    rw [show cutS (PySem.Str.ofString "abcd") none (some (k : Int)) = abK k from all k k4]
    exact kk
theorem ok_cw {f fA : Addr} {fd dA : FuncData} (F : Fun K "check_word" "check_word" sCw f fd) (cAl : CalN P w K mg base "alphabet" 1 ["letters"] spAl fA dA) : FnOk P w K mg base CX0 2 f fd ["letters", "word"] spCw := by
  refine F.ok scCw (fun vs H Q E h => ?_) (fun cdv A outer s H vs Q E hr h => ?_)
  · obtain ⟨k, u, rfl, _⟩ := h
    rfl
  · obtain ⟨k, u, rfl, k1, k4, hu, kk⟩ := h
    have hr1 : Room 1 _ := hr
    refine ⟨_, pss_cons (ps_set (i := 2) scCw.nd rfl (.inl rfl) (pe_call cAl.G hr1 rfl cAl.m cAl.kp cAl.b .nil pass0 (pa_cons (pv 0) pa_nil)))
      (pss_one (ps_for PassesOwn.never rfl (pi_str (pv 1)) (pg_name (i := 3) scCw.nd rfl (.inl rfl))
        (pss_one (ps_if (pt_cmpR op_notIn_sign (pv 3) (pv 2) (by rfl))
          (pss_one ps_never)
          pss_nil)))), ?_⟩
    refine ⟨_, rfl, k, rfl, k1, k4, ?_⟩
    refine ⟨_, rfl, _, rfl, for_it (walk_str (z := wd u)) (fun i σ H' => ∃ y, σ = [some (.int (k : Int)), some (.str (wd u)), some (.str (abK k)), y] ∧ H' = H) ⟨none, rfl, rfl⟩ (fun _ _ _ _ _ => trivial) ?_ ?_⟩
    · rintro i x σ H1 H2 hi ⟨y, rfl, rfl⟩ ⟨rfl, c, hc, rfl⟩
      rw [wd_at] at hc
      cases e : u[i]? with
      | none => rw [e] at hc; cases hc
      | some x =>
        rw [e] at hc
        obtain rfl := Option.some.inj hc
        have lt := hu x (List.mem_of_getElem? e)
        refine ⟨_, rfl, _, rfl, 97 + x, abK k, rfl, rfl, _, rfl, ?_⟩
        rw [decide_eq_true (mem_abK lt)]
        exact iteF ⟨_, rfl, rfl⟩
    · rintro σ H1 ⟨y, rfl, rfl⟩
      exact kk
end
end RX

set_option Elab.async false
set_option maxRecDepth 100000
set_option exponentiation.threshold 100000
namespace RX
open PySem L2 VA VM
open RQ (Hg Bt)
/-! ### rows that are led through steps -/
abbrev sShf : Stmt := topS 28
theorem scShf : FnScope ["row", "found", "integer"] ["row"] (defScope sShf) := ⟨rfl, rfl, rfl, by decide +kernel, rfl, by decide +kernel, by decide +kernel⟩
abbrev sShd : Stmt := topS 27
theorem scShd : FnScope ["tops", "bottom", "shared", "top"] ["tops", "bottom"] (defScope sShd) := ⟨rfl, rfl, rfl, by decide +kernel, rfl, by decide +kernel, by decide +kernel⟩
abbrev sRth : Stmt := topS 26
theorem scRth : FnScope ["tops", "bottom", "steps", "lead", "longest", "lines", "below"] ["tops", "bottom", "steps", "lead"] (defScope sRth) := ⟨rfl, rfl, rfl, by decide +kernel, rfl, by decide +kernel, by decide +kernel⟩
abbrev sWc : Stmt := topS 25
theorem scWc : FnScope ["column", "square", "line"] ["column", "square"] (defScope sWc) := ⟨rfl, rfl, rfl, by decide +kernel, rfl, by decide +kernel, by decide +kernel⟩
theorem Abv_div {n b t : Nat} {q : Nat → Rat} {z z' : Nat → Int} {B B' g : Int} (h : Abv n q z B b t) (g0 : g ≠ 0) (eB : B' * g = B) (ez : ∀ j, j < n → z' j * g = z j) : Abv n q z' B' b t := by
  have le : ∀ {x y : Int}, x * g = y → x.natAbs ≤ y.natAbs := fun {x y} e => by
    rw [← e, Int.natAbs_mul]
    exact Nat.le_mul_of_pos_right _ (Int.natAbs_pos.mpr g0)
  refine ⟨fun z => h.b0 (by rw [← eB, z, Int.zero_mul]), h.bb.le (le eB), fun j hj => ?_, fun j hj => (h.bt j hj).le (le (ez j hj))⟩
  have e := h.eq j hj
  have gr : (g : Rat) ≠ 0 := fun z => g0 (by exact_mod_cast z)
  rw [← ez j hj, ← eB, Rat.intCast_mul, Rat.intCast_mul] at e
  grind
def zc (B : Int) (z : Nat → Int) : Nat → Int
  | 0 => B
  | j + 1 => z j
theorem iV_cons {B : Int} {z : Nat → Int} {n : Nat} : iV (n + 1) (zc B z) = .int B :: iV n z := by
  unfold iV
  rw [List.range_succ_eq_map, List.map_cons, List.map_map]
  rfl
def stR (n : Nat) (z : Nat → Int) (y : Nat → Nat → Int) : Nat → Int := fun j => wsum z (fun i => y i j) n
def stC (n : Nat) (z : Nat → Int) (y : Nat → Nat → Int) : Nat → Int := fun i => wsum (y i) z n
def spLead (C : Addr) (st : Nat → (Nat → Int) → (Nat → Nat → Int) → Nat → Int) : Sp := fun vs H Q _ => ∃ (N : Addr → Prop) (p r : Addr) (n : Nat) (z : Nat → Int) (y : Nat → Nat → Int), vs = [.ref p, .ref r] ∧ At C N H (.ref p) (intL n z) ∧ At C N H (.ref r) (.lst (rng n fun i => intL n (y i))) ∧ Alc N H ∧ n ≤ 1000 ∧ (∀ i, i < n → Hg (z i)) ∧ (∀ i, i < n → ∀ j, j < n → Hg (y i j)) ∧
  ∀ (q : Addr) (H' : Hp), Same H H' → H q = none → At C N H' (.ref q) (intL n (st n z y)) → Q (.ref q) H'
def spShf (C : Addr) : Sp := fun vs H Q _ => ∃ (N : Addr → Prop) (p : Addr) (w : Nat) (z : Nat → Int), vs = [.ref p] ∧ At C N H (.ref p) (intL w z) ∧ Q (.int ((gf z w : Nat) : Int)) H
def spShd (C : Addr) : Sp := fun vs H Q _ => ∃ (N : Addr → Prop) (p : Addr) (w : Nat) (z : Nat → Int) (B : Int), vs = [.ref p, .int B] ∧ At C N H (.ref p) (intL w z) ∧ Alc N H ∧ w ≤ 1000 ∧ B ≠ 0 ∧
  ∀ (v : V) (z' : Nat → Int) (B' g : Int) (H' : Hp), Same H H' → At C N H' v (.tup [intL w z', .int B']) → g ≠ 0 → B' * g = B → (∀ j, j < w → z' j * g = z j) → Q v H'
def spRth (C : Addr) (st : Nat → (Nat → Int) → (Nat → Nat → Int) → Nat → Int) (fL : Addr) : Sp := fun vs H Q _ => ∃ (N : Addr → Prop) (p q : Addr) (n L b t b1 t1 : Nat) (z : Nat → Int) (B : Int) (U : Nat → Nat → Nat → Rat) (r : Nat → Nat → Rat), vs = [.ref p, .int B, .ref q, .ref fL] ∧ At C N H (.ref p) (intL n z) ∧ At C N H (.ref q) (.lst (rng L fun i => absT n n (U i))) ∧ Alc N H ∧ n ≤ 1000 ∧
  b + L * b1 ≤ 60000000 ∧ t + L * (t1 + n) ≤ 60000000 ∧ b1 ≤ 60000000 ∧ t1 ≤ 60000000 ∧ Abv n (r 0) z B b t ∧ (∀ i, i < L → SzT n n (U i) b1 t1) ∧
  (∀ i, i < L → ∀ (z : Nat → Int) (B : Int) (b t : Nat), Abv n (r i) z B b t → Abv n (r (i + 1)) (st n z fun a => topz (U i a) ((cbt (U i) n n : Nat) : Int)) (B * ((cbt (U i) n n : Nat) : Int)) (b + b1) (t + t1 + n)) ∧
  ∀ (v : V) (z' : Nat → Int) (B' : Int) (H' : Hp), Same H H' → At C N H' v (.tup [intL n z', .int B']) → Abv n (r L) z' B' (b + L * b1) (t + L * (t1 + n)) → Q v H'
section
variable {P : Program} {w : World} {K : PySem.W.Frag} {mg : Str → Option Value} {base : Heap}
theorem ok_shf {f C : Addr} {fd : FuncData} (F : Fun K "shared_factor" "shared_factor" sShf f fd) (TR : TxtR K mg C) : FnOk P w K mg base CX0 1 f fd ["row"] (spShf C) := by
  refine F.ok scShf (fun vs H Q E h => ?_) (fun cdv A outer s H vs Q E hr h => ?_)
  · obtain ⟨N, p, w, z, rfl, _⟩ := h
    rfl
  · obtain ⟨N, p, w, z, rfl, hp, k⟩ := h
    have hx := hp.ints
    refine ⟨_, pss_cons (ps_set (i := 1) scShf.nd rfl (.inl rfl) pe_int)
      (pss_cons (ps_for PassesOwn.never rfl (pi_list (pv 0)) (pg_name (i := 2) scShf.nd rfl (.inl rfl))
        (pss_one (ps_set (i := 1) scShf.nd rfl (.inl rfl) (pe_callBfun cr_gcd (by rfl) TR.gcd (pa_cons (pv 1) (pa_cons (pv 2) pa_nil))))))
      (pss_one (ps_ret (pv 1)))), ?_⟩
    refine ⟨_, rfl, p, rfl, ⟨_, SqL.of hx⟩, for_it (walk_list (K := K) (a := p) (xs := iV w z)) (fun i σ H' => ∃ y, σ = [some (.ref p), some (.int ((gf z i : Nat) : Int)), y] ∧ H' = H) ⟨none, rfl, rfl⟩ (fun i σ H' _ h => by obtain ⟨_, _, rfl⟩ := h; exact SqL.of hx) ?_ ?_⟩
    · rintro i x σ H1 H2 hi ⟨y, rfl, rfl⟩ ⟨rfl, hx2⟩
      obtain ⟨hi', rfl⟩ := iV_lt hx2
      refine ⟨_, rfl, _, rfl, _, _, rfl, some (.int (z i)), ?_, rfl⟩
      show [some (V.ref p), some (V.int ((Nat.gcd (((gf z i : Nat) : Int)).natAbs (z i).natAbs : Nat) : Int)), some (V.int (z i))] = _
      rw [Int.natAbs_natCast]
      rfl
    · rintro σ H1 ⟨y, rfl, rfl⟩
      rw [iV_len]
      exact ⟨_, rfl, k⟩
theorem ok_shd (B : PL.Big P base) {f fS C : Addr} {fd dS : FuncData} (F : Fun K "shortened" "shortened" sShd f fd) (cShf : CalN P w K mg base "shared_factor" 1 ["row"] (spShf C) fS dS) : FnOk P w K mg base CX0 33 f fd ["tops", "bottom"] (spShd C) := by
  refine F.ok scShd (fun vs H Q E h => ?_) (fun cdv A outer s H vs Q E hr32 h => ?_)
  · obtain ⟨N, p, w, z, B, rfl, _⟩ := h
    rfl
  · obtain ⟨N, p, w, z, B0, rfl, hp, al, hw, b0, k⟩ := h
    have hr1 : Room 1 _ := hr32.mono (by decide)
    have hx := hp.ints
    refine ⟨_, pss_cons (ps_set (i := 2) scShd.nd rfl (.inr rfl) (pe_call cShf.G hr1 rfl cShf.m cShf.kp cShf.b .nil pass0 (pa_cons (pe_op op_cat (pe_lst (pa_cons (pv 1) pa_nil)) (pv 0)) pa_nil)))
      (pss_one (ps_ret (pe_ifExp (pt_cmpR op_gt (pv 2) pe_int (nomark _)) (pe_tup (pa_cons (pe_lc (own := [("top", 3)]) (g := gName 3) (tt := tYes) rfl scShd.nd (pi_list (pv 0)) (blkOk_by (N := ["tops", "bottom", "shared", "top"]) (sc := (defScope sShd)) (by decide +kernel)) (fun _ _ _ _ _ => (pg_name (i := 3) scShd.nd rfl (.inl rfl))) (fun _ _ _ _ _ => pts_nil) (fun _ _ _ _ _ => (pe_op (PL.op_fdivP B hr32 ⟨_, _, rfl, rfl, rfl, rfl, rfl⟩) (pv 3) (pv 2)))) (pa_cons (pe_op (PL.op_fdivP B hr32 ⟨_, _, rfl, rfl, rfl, rfl, rfl⟩) (pv 1) (pv 2)) pa_nil))) (pe_tup (pa_cons (pv 0) (pa_cons (pv 1) pa_nil)))))), ?_⟩
    refine ⟨_, rfl, (by show 1 ≤ sizeLine; decide), fun l nl => ⟨_, rfl, l, p, _, _, rfl, rfl, upd_same, Same.upd nl _ _ hx, by show 1 + (iV w z).length ≤ sizeLine; rw [iV_len]; exact Nat.le_trans (show 1 + w ≤ 1001 by omega) (by show 1001 ≤ sizeLine; decide), fun r nr => ?_⟩⟩
    have s1 : Same H (upd (upd H l (.lst [.int B0])) r (.lst ([.int B0] ++ iV w z))) := (Same.upd nl).trans (Same.upd nr)
    have hr : (upd (upd H l (.lst [.int B0])) r (.lst ([.int B0] ++ iV w z))) r = some (.lst (iV (w + 1) (zc B0 z))) := by rw [upd_same, iV_cons]; rfl
    have nrN : ¬ N r := al.fresh ((Same.upd nl).free nr)
    generalize upd (upd H l (.lst [.int B0])) r (.lst ([.int B0] ++ iV w z)) = H1 at *
    refine ⟨N, r, w + 1, zc B0 z, rfl, at_ints hr nrN, ?_⟩
    have g0 : 0 < gf (zc B0 z) (w + 1) := gf_pos (j := 0) (by omega) b0
    have dv : ∀ j, j < w + 1 → ((gf (zc B0 z) (w + 1) : Nat) : Int) ∣ zc B0 z j := fun j hj => gf_dvd hj
    generalize gf (zc B0 z) (w + 1) = g at *
    have gne : (g : Int) ≠ 0 := by omega
    have hp1 := hp.same s1
    have hx1 := hp1.ints
    have al1 := al.keep (Same.keep (N := N) s1)
    refine ⟨_, rfl, _, _, rfl, rfl, _, rfl, ?_⟩
    refine ite2 (fun z1 => ?_) (fun z1 => ?_)
    · refine ⟨_, rfl, p, rfl, ⟨_, SqL.of hx1⟩, fun D nD => ?_⟩
      refine lc_it (walk_list (K := K) (a := p) (xs := iV w z)) (fun i H' => H' D = some (.lst (iV i fun j => (z j).fdiv (g : Int))) ∧ Same H1 H') ⟨upd_same, Same.upd nD⟩ (fun i H' _ h => SqL.of (h.2 _ _ hx1)) ?_ ?_
      · rintro i x H2 H3 hi ⟨hD, s2⟩ ⟨rfl, hx2⟩
        obtain ⟨hi', rfl⟩ := iV_lt hx2
        refine ⟨rfl, _, rfl, _, rfl, _, _, rfl, rfl, gne, _, hD, ?_, ?_, fun c o hc => ?_⟩
        · rw [iV_len]
          exact small1000 (by omega)
        · rw [upd_same, iV_succ]
        · rw [upd_ne (ne_of_none hc nD)]
          exact s2 _ _ hc
      · rintro H2 ⟨hD, s2⟩
        rw [iV_len] at hD
        refine ⟨_, rfl, _, rfl, _, _, rfl, rfl, gne, (by show 2 ≤ sizeLine; decide), fun q nq => ?_⟩
        refine k (.ref q) (fun j => (z j).fdiv (g : Int)) (B0.fdiv (g : Int)) (g : Int) _ ((s1.trans s2).trans (Same.upd nq)) ?_ gne (RT.fdiv_of_dvd gne (dv 0 (by omega))) fun j hj => RT.fdiv_of_dvd gne (dv (j + 1) (by omega))
        exact At.newT (al1.keep (Same.keep (N := N) s2)) nq rfl (itemsC (at_ints hD (al1.fresh nD)) (items1 (.int _)))
    · refine ⟨_, rfl, _, rfl, (by show 2 ≤ sizeLine; decide), fun q nq => ?_⟩
      refine k (.ref q) z B0 1 _ (s1.trans (Same.upd nq)) ?_ (by decide) (Int.mul_one _) fun j hj => Int.mul_one _
      exact At.newT al1 nq rfl (itemsC hp1 (items1 (.int _)))
theorem ok_wc {f fW C : Addr} {fd dW : FuncData} (F : Fun K "whole_column_times" "whole_column_times" sWc f fd) (cWp : CalN P w K mg base "whole_product" 1 ["one", "other"] (spWp C) fW dW) : FnOk P w K mg base CX0 2 f fd ["column", "square"] (spLead C stC) := by
  refine F.ok scWc (fun vs H Q E h => ?_) (fun cdv A outer s H vs Q E hr h => ?_)
  · obtain ⟨N, p, r, n, z, y, rfl, _⟩ := h
    rfl
  · obtain ⟨N, p, r, n, z, y, rfl, hp, hr', al, n1, gz, gy, k⟩ := h
    have hr1 : Room 1 _ := hr
    obtain ⟨ys, hys, ly, ey⟩ := At.lstR hr'
    refine ⟨_, pss_one (ps_ret (pe_lc (own := [("line", 2)]) (g := gName 2) (tt := tYes) rfl scWc.nd (pi_list (pv 1)) (blkOk_by (N := ["column", "square", "line"]) (sc := (defScope sWc)) (by decide +kernel)) (fun _ _ _ _ _ => (pg_name (i := 2) scWc.nd rfl (.inl rfl))) (fun _ _ _ _ _ => pts_nil) (fun _ _ _ _ _ => (pe_call cWp.G hr1 rfl cWp.m cWp.kp cWp.b .nil pass0 (pa_cons (pv 2) (pa_cons (pv 0) pa_nil)))))), ?_⟩
    refine ⟨_, rfl, r, rfl, ⟨_, SqL.of hys⟩, fun D nD => ?_⟩
    have nND := al.fresh nD
    refine lc_it (walk_list (K := K) (a := r) (xs := ys)) (fun j G => Bld C Emp N H D (rng j fun i => .int (stC n z y i)) G) (bld0 nD) (fun i G _ b => SqL.of (b.k.same _ _ hys)) ?_ ?_
    · rintro j x G1 G2 hj bb ⟨rfl, hy⟩
      rw [ly] at hj
      obtain ⟨y', hy', hd'⟩ := ey j hj
      rw [hy'] at hy
      obtain rfl := Option.some.inj hy
      obtain ⟨qy, rfl⟩ := hd'.lstV
      refine ⟨rfl, _, rfl, _, rfl, N, qy, p, n, _, z, rfl, hd'.keep (Same.keep bb.k.same), hp.keep (Same.keep bb.k.same), n1, fun l hl => ⟨gy j hj l hl, gz l hl⟩, fun G3 s3 => ?_⟩
      obtain ⟨acc, h1, h2, h3⟩ := bb.step nD (Same.keep s3) (fun _ z => z.elim) id (At.int _)
      refine ⟨acc, h1, by rw [h2, rng_len]; exact small1000 (by omega), ?_⟩
      rw [rng_succ]
      exact h3
    · rintro G1 bb
      rw [ly] at bb
      exact k D G1 bb.k.same nD (bb.done nND)
theorem bits_hg {B : Int} {b : Nat} (h : Bt b B) (l : b ≤ 60000000) : Builtin.Int.intBits B ≤ 60000000 := by
  unfold Builtin.Int.intBits
  split
  · omega
  · rename_i z
    have z : B ≠ 0 := fun e => z (beq_iff_eq.mpr e)
    have : B.natAbs.log2 < b := (Nat.log2_lt (by omega)).mpr h
    omega
theorem hg_small {x : Nat} (h : x ≤ 60000000) : Hg ((x : Nat) : Int) := ⟨26, by decide, by
  show ((x : Nat) : Int).natAbs < 2 ^ 26
  rw [Int.natAbs_natCast]
  have : (2 : Nat) ^ 26 = 67108864 := by decide
  omega⟩
theorem ok_rth {f fS fL C : Addr} {fd dS dL : FuncData} {x : Str} {kL : Nat} {st : Nat → (Nat → Int) → (Nat → Nat → Int) → Nat → Int} {y : Str} (F : Fun K "row_through" "row_through" sRth f fd) (T : TxtL mg) {tS : Tok} (mSH : mg "SHORT" = some (.int 2000 tS)) (lk : kL ≤ 33)
    (cShd : CalN P w K mg base "shortened" 33 ["tops", "bottom"] (spShd C) fS dS) (cLd : CalN P w K mg base x kL [y, "square"] (spLead C st) fL dL) :
    FnOk P w K mg base CX0 34 f fd ["tops", "bottom", "steps", "lead"] (spRth C st fL) := by
  refine F.ok scRth (fun vs H Q E h => ?_) (fun cdv A outer s H vs Q E hr33 h => ?_)
  · obtain ⟨N, p, q, n, L, b, t, b1, t1, z, B, U, r, rfl, _⟩ := h
    rfl
  · obtain ⟨N, p, q, n, L, b, t, b1, t1, z, B, U, r, rfl, hp, hq, al, n1, hb, ht, hb1, ht1, av, sz, stp, k⟩ := h
    have hrL : Room kL _ := hr33.mono lk
    obtain ⟨xs, hxs, lx, ex⟩ := At.lstR hq
    refine ⟨_, pss_cons (ps_set (i := 4) scRth.nd rfl (.inl rfl) (pe_glob (v := .int 2000) (by rfl) mSH ⟨_, rfl⟩))
      (pss_cons (ps_for PassesOwn.never rfl (pi_list (pv 2)) (pg_tup rfl (pgs_cons (pg_name (i := 5) scRth.nd rfl (.inl rfl)) (pgs_cons (pg_name (i := 6) scRth.nd rfl (.inl rfl)) pgs_nil)))
        (pss_cons (ps_par (i := 0) (j := 1) (by rfl) scRth.nd rfl rfl (by decide) rfl rfl (pa_cons (ItX.pe_callV (i := 3) (FnOk.raw cLd.G cLd.b .nil) hrL cLd.kp pass0 rfl (.inl rfl) (pa_cons (pv 0) (pa_cons (pv 5) pa_nil))) (pa_cons (pe_op RQ.op_mulH (pv 1) (pv 6)) pa_nil)) (by rfl))
        (pss_one (ps_if (pt_cmpR op_gt (pe_bits (pv 1)) (pv 4) (nomark _))
          (pss_cons (ps_asg (pe_call cShd.G hr33 rfl cShd.m cShd.kp cShd.b .nil pass0 (pa_cons (pv 0) (pa_cons (pv 1) pa_nil))) (pg_tup rfl (pgs_cons (pg_name (i := 0) scRth.nd rfl (.inl rfl)) (pgs_cons (pg_name (i := 1) scRth.nd rfl (.inl rfl)) pgs_nil))))
          (pss_one (ps_set (i := 4) scRth.nd rfl (.inl rfl) (pe_callB (call_max2 rfl) (by rfl) T.max (by decide +kernel) (pa_cons (pe_glob (v := .int 2000) (by rfl) mSH ⟨_, rfl⟩) (pa_cons (pe_op RQ.op_mulH pe_int (pe_bits (pv 1))) pa_nil))))))
          pss_nil))))
      (pss_one (ps_ret (pe_tup (pa_cons (pv 0) (pa_cons (pv 1) pa_nil)))))), ?_⟩
    refine ⟨_, rfl, q, rfl, ⟨_, SqL.of hxs⟩, for_it (walk_list (K := K) (a := q) (xs := xs)) (fun i σ H' => ∃ p' z' B' lo o5 o6, σ = [some (.ref p'), some (.int B'), some (.ref q), some (.ref fL), some (.int lo), o5, o6] ∧ Same H H' ∧ At C N H' (.ref p') (intL n z') ∧ Abv n (r i) z' B' (b + i * b1) (t + i * (t1 + n)))
      ⟨p, z, B, 2000, none, none, rfl, Same.refl H, hp, by rw [Nat.zero_mul, Nat.zero_mul]; exact av⟩ (fun i σ H' _ h => by obtain ⟨_, _, _, _, _, _, _, s, _⟩ := h; exact SqL.of (s _ _ hxs)) ?_ ?_⟩
    · rintro i v σ H1 H2 hi ⟨p', z', B', lo, o5, o6, rfl, s1, hp', av'⟩ ⟨rfl, hv⟩
      rw [lx] at hi
      obtain ⟨v', hv', hd⟩ := ex i hi
      rw [hv'] at hv
      obtain rfl := Option.some.inj hv
      have hd := hd.same s1
      obtain ⟨rv, rfl⟩ := hd.tupV
      obtain ⟨ys, hys, ly, ey⟩ := hd.tupE
      match ys, ly with
      | [w0, w1], _ =>
      have h0 := ey 0 w0 _ rfl rfl
      have h1 := (ey 1 w1 _ rfl rfl).intV
      subst h1
      obtain ⟨sq, rfl⟩ := h0.lstV
      refine ⟨rv, _, rfl, SqT.of hys, rfl, _, _, rfl, _, _, rfl, rfl, ?_⟩
      have iL : (i + 1) * b1 ≤ L * b1 := Nat.mul_le_mul_right _ hi
      have iT : (i + 1) * (t1 + n) ≤ L * (t1 + n) := Nat.mul_le_mul_right _ hi
      have eb : (i + 1) * b1 = i * b1 + b1 := Nat.succ_mul i b1
      have et : (i + 1) * (t1 + n) = i * (t1 + n) + (t1 + n) := Nat.succ_mul i _
      have szi := sz i hi
      have al2 := al.keep (Same.keep (N := N) s1)
      refine ⟨rfl, _, rfl, _, rfl, N, p', sq, n, z', fun a => topz (U i a) ((cbt (U i) n n : Nat) : Int), rfl, hp', h0, al2, n1, fun j hj => Hg.bt (av'.bt j hj) (by omega), fun a ha j hj => Hg.bt (szi.t a ha j hj) ht1, fun q' H3 s3 nq' hq' => ?_⟩
      refine ⟨_, rfl, _, rfl, _, _, rfl, rfl, ⟨Hg.bt av'.bb (by omega), Hg.bt szi.b hb1⟩, ?_⟩
      have st2 := (stp i hi z' B' _ _ av').up (b' := b + (i + 1) * b1) (t' := t + (i + 1) * (t1 + n)) (by omega) (by omega)
      refine ⟨_, _, rfl, ?_⟩
      refine ⟨_, rfl, _, rfl, _, rfl, _, _, rfl, rfl, _, rfl, ?_⟩
      refine ite2 (fun z1 => ?_) (fun z1 => ?_)
      · refine ⟨_, rfl, _, rfl, N, q', n, _, _, rfl, hq', al2.keep (Same.keep (N := N) s3), n1, st2.b0, fun v z2 B2 g H4 s4 hv g0 eB ez => ?_⟩
        have av2 := Abv_div st2 g0 eB ez
        obtain ⟨ru, rfl⟩ := hv.tupV
        obtain ⟨us, hus, lu, eu⟩ := hv.tupE
        match us, lu with
        | [u0, u1], _ =>
        have k0 := eu 0 u0 _ rfl rfl
        have k1 := (eu 1 u1 _ rfl rfl).intV
        subst k1
        obtain ⟨pz, rfl⟩ := k0.lstV
        refine ⟨ru, _, rfl, SqT.of hus, rfl, _, _, rfl, _, _, rfl, rfl, ?_⟩
        have hbit := bits_hg av2.bb (by omega)
        refine ⟨_, rfl, _, rfl, ?_⟩
        refine ⟨_, _, rfl, rfl, ⟨⟨2, by decide, show (2 : Int).natAbs < 2 ^ 2 by decide⟩, hg_small hbit⟩, _, _, rfl, ?_⟩
        exact ⟨pz, z2, B2, _, _, _, rfl, (s1.trans s3).trans s4, k0, av2⟩
      · exact ⟨q', _, _, _, _, _, rfl, s1.trans s3, hq', st2⟩
    · rintro σ H2 ⟨p', z', B', lo, o5, o6, rfl, s1, hp', av'⟩
      rw [lx] at av'
      refine ⟨_, rfl, _, rfl, (by show 2 ≤ sizeLine; decide), fun u nu => ?_⟩
      exact k (.ref u) z' B' _ (s1.trans (Same.upd nu)) (At.newT (al.keep (Same.keep (N := N) s1)) nu rfl (itemsC hp' (items1 (.int _)))) av'
end
end RX

set_option Elab.async false
set_option maxRecDepth 100000
namespace RX
open PySem L2 LX VA
open RQ (Hg Bt)
/-! ### machines -/
abbrev sMi : Stmt := inClass (topS 34) 0
theorem scMi : FnScope ["self", "letters", "start", "steps", "end", "step", "row"] ["self", "letters", "start", "steps", "end"] (defScope sMi) := ⟨rfl, rfl, rfl, by decide +kernel, rfl, by decide +kernel, by decide +kernel⟩
abbrev outMi0 : Scope := { kind := .function, names := [(".0", .local), ("step", .local), ("tuple", .globalImplicit)], isGenerator := false, isCoroutine := false }
abbrev sSi : Stmt := inClass (topS 34) 1
theorem scSi : FnScope ["self"] ["self"] (defScope sSi) := ⟨rfl, rfl, rfl, by decide +kernel, rfl, by decide +kernel, by decide +kernel⟩
abbrev sFit : Stmt := inClass (topS 34) 8
theorem scFit : FnScope ["self", "size", "step", "row"] ["self"] (defScope sFit) := ⟨rfl, rfl, rfl, by decide +kernel, rfl, by decide +kernel, by decide +kernel⟩
abbrev outFit0 : Scope := { kind := .function, names := [(".0", .local), ("step", .local), ("len", .globalImplicit), ("all", .globalImplicit), ("size", .cell)], isGenerator := false, isCoroutine := false }
abbrev sSta : Stmt := inClass (topS 34) 10
theorem scSta : FnScope ["self", "letter", "at"] ["self", "letter"] (defScope sSta) := ⟨rfl, rfl, rfl, by decide +kernel, rfl, by decide +kernel, by decide +kernel⟩
abbrev sRwa : Stmt := inClass (topS 34) 9
theorem scRwa : FnScope ["self", "word", "tops", "bottom", "steps", "letter"] ["self", "word"] (defScope sRwa) := ⟨rfl, rfl, rfl, by decide +kernel, rfl, by decide +kernel, by decide +kernel⟩
abbrev sNum : Stmt := inClass (topS 34) 2
theorem scNum : FnScope ["self", "word", "tops", "bottom", "ends", "below"] ["self", "word"] (defScope sNum) := ⟨rfl, rfl, rfl, by decide +kernel, rfl, by decide +kernel, by decide +kernel⟩
abbrev sCall : Stmt := inClass (topS 34) 3
theorem scCall : FnScope ["self", "word"] ["self", "word"] (defScope sCall) := ⟨rfl, rfl, rfl, by decide +kernel, rfl, by decide +kernel, by decide +kernel⟩
structure Mc where
  k : Nat
  n : Nat
  s : Nat → Rat
  t : Nat → Nat → Nat → Rat
  e : Nat → Rat
def mf0 (k : Int) (vS vT vE : V) : List (Str × V) := putF "end" vE (putF "steps" vT (putF "start" vS (putF "letters" (.int k) [])))
def mf (k : Int) (vS vT vE : V) (ab : Addr) : List (Str × V) := putF "_above" (.ref ab) (mf0 k vS vT vE)
theorem lookup_mf0 (k : Int) (vS vT vE : V) (m : Str) : (mf0 k vS vT vE).lookup m = if m = "end" then some vE else if m = "steps" then some vT else if m = "start" then some vS else if m = "letters" then some (.int k) else none := by
  unfold mf0
  rw [lookup_putF, lookup_putF, lookup_putF, lookup_putF]
  rfl
theorem lookup_mf (k : Int) (vS vT vE : V) (ab : Addr) (m : Str) : (mf k vS vT vE ab).lookup m = if m = "_above" then some (.ref ab) else (mf0 k vS vT vE).lookup m := by
  unfold mf
  rw [lookup_putF]
section
variable {k : Int} {vS vT vE : V} {ab : Addr}
theorem mf0_l : (mf0 k vS vT vE).lookup ("letters" : Str) = some (.int k) := by
  rw [lookup_mf0, if_neg (by decide +kernel), if_neg (by decide +kernel), if_neg (by decide +kernel), if_pos rfl]
theorem mf0_s : (mf0 k vS vT vE).lookup ("start" : Str) = some vS := by
  rw [lookup_mf0, if_neg (by decide +kernel), if_neg (by decide +kernel), if_pos rfl]
theorem mf0_t : (mf0 k vS vT vE).lookup ("steps" : Str) = some vT := by
  rw [lookup_mf0, if_neg (by decide +kernel), if_pos rfl]
theorem mf0_e : (mf0 k vS vT vE).lookup ("end" : Str) = some vE := by
  rw [lookup_mf0, if_pos rfl]
theorem mf_l : (mf k vS vT vE ab).lookup ("letters" : Str) = some (.int k) := by
  rw [lookup_mf, if_neg (by decide +kernel)]; exact mf0_l
theorem mf_s : (mf k vS vT vE ab).lookup ("start" : Str) = some vS := by
  rw [lookup_mf, if_neg (by decide +kernel)]; exact mf0_s
theorem mf_t : (mf k vS vT vE ab).lookup ("steps" : Str) = some vT := by
  rw [lookup_mf, if_neg (by decide +kernel)]; exact mf0_t
theorem mf_e : (mf k vS vT vE ab).lookup ("end" : Str) = some vE := by
  rw [lookup_mf, if_neg (by decide +kernel)]; exact mf0_e
theorem mf_a : (mf k vS vT vE ab).lookup ("_above" : Str) = some (.ref ab) := by
  rw [lookup_mf, if_pos rfl]
theorem mf0_no {m : Str} (h1 : ¬ m = "end") (h2 : ¬ m = "steps") (h3 : ¬ m = "start") (h4 : ¬ m = "letters") : (mf0 k vS vT vE).lookup m = none := by
  rw [lookup_mf0, if_neg h1, if_neg h2, if_neg h3, if_neg h4]
theorem mf_no {m : Str} (h0 : ¬ m = "_above") (h1 : ¬ m = "end") (h2 : ¬ m = "steps") (h3 : ¬ m = "start") (h4 : ¬ m = "letters") : (mf k vS vT vE ab).lookup m = none := by
  rw [lookup_mf, if_neg h0]; exact mf0_no h1 h2 h3 h4
end
def stepsD (m : Mc) : Dat := .tup (rng m.k fun x => ratT m.n m.n (m.t x))
def absD (m : Mc) (x : Nat) : Dat := absT m.n m.n (m.t x)
/-- the machine m stands at p, what is worked out of its steps at ab -/
structure MachAt (C CM : Addr) (N : Addr → Prop) (H : Hp) (p ab : Addr) (m : Mc) : Prop where
  ex : ∃ dx vS vT vE, H p = some (.ins CM dx (mf (m.k : Int) vS vT vE ab)) ∧ At C N H vS (ratR m.n m.s) ∧ At C N H vT (stepsD m) ∧ At C N H vE (ratR m.n m.e)
  np : ¬ N p
  na : N ab
  av : ∃ xs, H ab = some (.lst xs) ∧ xs.length = m.k ∧ ∀ x, x < m.k → xs[x]? = some .non ∨ ∃ v, xs[x]? = some v ∧ v ≠ .non ∧ At C N H v (absD m x)
  k1 : 1 ≤ m.k
  k4 : m.k ≤ 4
  n1 : m.n ≤ 1000
theorem MachAt.keep {C CM : Addr} {N : Addr → Prop} {H H' : Hp} {p ab : Addr} {m : Mc} (h : MachAt C CM N H p ab m) (k : Keep N H H') (e : H' ab = H ab) : MachAt C CM N H' p ab m := by
  obtain ⟨⟨dx, vS, vT, vE, hp, hS, hT, hE⟩, np, na, ⟨xs, hx, l, av⟩, k1, k4, n1⟩ := h
  refine ⟨⟨dx, vS, vT, vE, k.k _ _ hp np, hS.keep k, hT.keep k, hE.keep k⟩, np, na, ⟨xs, by rw [e]; exact hx, l, fun x hx => ?_⟩, k1, k4, n1⟩
  rcases av x hx with h | ⟨v, h1, h2, h3⟩
  · exact .inl h
  · exact .inr ⟨v, h1, h2, h3.keep k⟩
theorem MachAt.same {C CM : Addr} {N : Addr → Prop} {H H' : Hp} {p ab : Addr} {m : Mc} (h : MachAt C CM N H p ab m) (s : Same H H') : MachAt C CM N H' p ab m := by
  obtain ⟨xs, hx, _, _⟩ := h.av
  exact h.keep (Same.keep s) (by rw [s _ _ hx, hx])
/-- another list changes -/
theorem MachAt.but {C CM : Addr} {N : Addr → Prop} {H H' : Hp} {p ab a : Addr} {m : Mc} (h : MachAt C CM N H p ab m) (b : But a H H') (ne : ab ≠ a) (n : N a) (t : H' a ≠ none) : MachAt C CM N H' p ab m := by
  obtain ⟨xs, hx, _, _⟩ := h.av
  exact h.keep (Keep.but b n t) (by rw [b _ _ hx ne, hx])
theorem MachAt.and {C CM : Addr} {N : Addr → Prop} {H : Hp} {p ab D : Addr} {m : Mc} (h : MachAt C CM N H p ab m) (f : H D = none) : MachAt C CM (And1 N D) H p ab m := by
  obtain ⟨⟨dx, vS, vT, vE, hp, hS, hT, hE⟩, np, na, ⟨xs, hx, l, av⟩, k1, k4, n1⟩ := h
  refine ⟨⟨dx, vS, vT, vE, hp, hS.and f, hT.and f, hE.and f⟩, fun z => ?_, .inl na, ⟨xs, hx, l, fun x hx => ?_⟩, k1, k4, n1⟩
  · rcases z with z | z
    · exact np z
    · rw [z, f] at hp; cases hp
  · rcases av x hx with h | ⟨v, h1, h2, h3⟩
    · exact .inl h
    · exact .inr ⟨v, h1, h2, h3.and f⟩
/-- sizes of its numbers -/
structure Msz (m : Mc) (b t : Nat) : Prop where
  sS : SzR m.n m.s b t
  sE : SzR m.n m.e b t
  sT : ∀ x, x < m.k → SzT m.n m.n (m.t x) b t
  b1 : b ≤ 12999
  t1 : t ≤ 100000
structure TxtM (K : PySem.W.Frag) (mg : Str → Option Value) (CM : Addr) : Prop where
  cl : Cls K CM
  nL : NoAttr K CM "letters"
  nS : NoAttr K CM "start"
  nT : NoAttr K CM "steps"
  nE : NoAttr K CM "end"
  nA : NoAttr K CM "_above"
  mgM : mg "Machine" = some (.ref CM)
/-- a method of a class -/
structure MetN (P : Program) (w : World) (K : PySem.W.Frag) (mg : Str → Option Value) (base : Heap) (C : Addr) (x : Str) (k : Nat) (ps : List Str) (sp : Sp) (f : Addr) (fd : FuncData) : Prop where
  G : FnOk P w K mg base CX0 k f fd ps sp
  m : Meth K C x f
  b : Binds K fd ps []
structure PropN (P : Program) (w : World) (K : PySem.W.Frag) (mg : Str → Option Value) (base : Heap) (C : Addr) (x : Str) (k : Nat) (sp : Sp) (q f : Addr) (fd : FuncData) : Prop where
  G : FnOk P w K mg base CX0 k f fd ["self"] sp
  p : PropOf K C x q f
  b : Binds K fd ["self"] []
def spSi (C CM : Addr) : Sp := fun vs H Q _ => ∃ (N : Addr → Prop) (p ab : Addr) (m : Mc), vs = [.ref p] ∧ MachAt C CM N H p ab m ∧ Q (.int (m.n : Int)) H
/-- before the last field is set -/
def spFit (C CM : Addr) : Sp := fun vs H Q _ => ∃ (N : Addr → Prop) (p dx : Addr) (vS vT vE : V) (m : Mc), vs = [.ref p] ∧ H p = some (.ins CM dx (mf0 (m.k : Int) vS vT vE)) ∧ At C N H vS (ratR m.n m.s) ∧ At C N H vT (stepsD m) ∧ At C N H vE (ratR m.n m.e) ∧ 1 ≤ m.k ∧ m.k ≤ 4 ∧ m.n ≤ 1000 ∧
  ∀ H', Same H H' → Q (.bl true) H'
def spSta (C CM : Addr) : Sp := fun vs H Q _ => ∃ (N : Addr → Prop) (p ab : Addr) (m : Mc) (x b t : Nat), vs = [.ref p, .str (ltr x)] ∧ MachAt C CM N H p ab m ∧ Alc N H ∧ x < m.k ∧ SzT m.n m.n (m.t x) b t ∧ b ≤ 12999 ∧ t ≤ 100000 ∧
  ∀ (v : V) (H' : Hp), But ab H H' → MachAt C CM N H' p ab m → At C N H' v (absD m x) → Q v H'
def rowN (m : Mc) (u : List Nat) : Nat → Rat := VN.row m.n m.t m.s u
def numN (m : Mc) (u : List Nat) : Rat := VM.dot (rowN m u) m.e m.n
def spRwa (C CM : Addr) : Sp := fun vs H Q _ => ∃ (N : Addr → Prop) (p ab : Addr) (m : Mc) (u : List Nat) (b t : Nat), vs = [.ref p, .str (wd u)] ∧ MachAt C CM N H p ab m ∧ Alc N H ∧ Ltk m.k u ∧ u.length ≤ 400 ∧ Msz m b t ∧
  ∀ (v : V) (z : Nat → Int) (B : Int) (H' : Hp), But ab H H' → MachAt C CM N H' p ab m → At C N H' v (.tup [intL m.n z, .int B]) → Abv m.n (rowN m u) z B (b * (u.length + 1)) (t + u.length * (t + m.n)) → Q v H'
def spNum (C CM : Addr) : Sp := fun vs H Q _ => ∃ (N : Addr → Prop) (p ab : Addr) (m : Mc) (u : List Nat) (b t : Nat), vs = [.ref p, .str (wd u)] ∧ MachAt C CM N H p ab m ∧ Alc N H ∧ Ltk m.k u ∧ u.length ≤ 400 ∧ Msz m b t ∧
  ∀ (r : Addr) (H' : Hp), But ab H H' → H r = none → MachAt C CM N H' p ab m → At C N H' (.ref r) (.rat (numN m u)) → Q (.ref r) H'
section
variable {P : Program} {w : World} {K : PySem.W.Frag} {mg : Str → Option Value} {base : Heap}
theorem ok_si {f C CM : Addr} {fd : FuncData} (F : Fun K "size" "Machine.size" sSi f fd) (T : TxtL mg) (TM : TxtM K mg CM) : FnOk P w K mg base CX0 1 f fd ["self"] (spSi C CM) := by
  refine F.ok scSi (fun vs H Q E h => ?_) (fun cdv A outer s H vs Q E hr h => ?_)
  · obtain ⟨N, p, ab, m, rfl, _⟩ := h
    rfl
  · obtain ⟨N, p, ab, m, rfl, hm, k⟩ := h
    obtain ⟨dx, vS, vT, vE, hp, hS, hT, hE⟩ := hm.ex
    obtain ⟨q, rfl⟩ := hS.tupV
    obtain ⟨xs, hx, l, _⟩ := At.tupR hS
    refine ⟨_, pss_one (ps_ret (pe_callB call_len_seq (by rfl) T.len PySem.boot_len (pa_cons (pe_fld (pv 0) rfl) pa_nil))), ?_⟩
    refine ⟨_, rfl, p, CM, dx, _, _, rfl, hp, TM.cl, TM.nS, mf_s, q, xs, rfl, .inr (SqT.of hx), ?_⟩
    rw [l]
    exact k
theorem ok_sta {f fA fT C CM : Addr} {fd dA dT : FuncData} (F : Fun K "_step_above" "Machine._step_above" sSta f fd) (TM : TxtM K mg CM) (cAl : CalN P w K mg base "alphabet" 1 ["letters"] spAl fA dA) (cTb : CalN P w K mg base "table_above" 34 ["table"] (spTb C) fT dT) :
    FnOk P w K mg base CX0 35 f fd ["self", "letter"] (spSta C CM) := by
  refine F.ok scSta (fun vs H Q E h => ?_) (fun cdv A outer s H vs Q E hr h => ?_)
  · obtain ⟨N, p, ab, m, x, b, t, rfl, _⟩ := h
    rfl
  · obtain ⟨N, p, ab, m, x, b, t, rfl, hm, al, hx, sz, b1, t1, k⟩ := h
    have hr1 : Room 1 _ := hr.mono (by decide)
    have hr34 : Room 34 _ := hr
    have hm0 := hm
    obtain ⟨⟨dx, vS, vT, vE, hp, hS, hT, hE⟩, np, na, ⟨xs, hxs, l, av⟩, k1, k4, n1⟩ := hm
    have pab : p ≠ ab := fun z => np (by rw [z]; exact na)
    refine ⟨_, pss_cons (ps_set (i := 2) scSta.nd rfl (.inl rfl) (pe_bm PySem.F.plainAttrs_str PySem.F.slot_str_index PySem.F.type_str_index mt_letterK (pe_call cAl.G hr1 rfl cAl.m cAl.kp cAl.b .nil pass0 (pa_cons (pe_fld (pv 0) rfl) pa_nil)) (pa_cons (pv 1) pa_nil)))
      (C8.pss_cut (ps_if (pt_cmpR op_isN1 (pe_ix ix_list (pe_fld (pv 0) rfl) (pv 2) (fun _ _ => rfl)) pe_non (nomark _))
        (pss_one (ps_asg (pe_call cTb.G hr34 rfl cTb.m cTb.kp cTb.b .nil pass0 (pa_cons (pe_ix ix_tup (pe_fld (pv 0) rfl) (pv 2) (fun _ _ => rfl)) pa_nil)) (pg_sub (pe_fld (pv 0) rfl) (pv 2) set_list)))
        pss_nil)
      (pss_one (ps_ret (pe_ix ix_list (pe_fld (pv 0) rfl) (pv 2) (fun _ _ => rfl))))), ?_⟩
    refine ⟨_, rfl, p, CM, dx, _, _, rfl, hp, TM.cl, TM.nL, mf_l, m.k, rfl, k1, k4, rfl, _, rfl, m.k, x, k4, hx, rfl, rfl, ?_⟩
    refine ⟨fun σ' H' => ∃ v ys, σ' = [some (.ref p), some (.str (ltr x)), some (.int (x : Int))] ∧ But ab H H' ∧ MachAt C CM N H' p ab m ∧ H' p = some (.ins CM dx (mf (m.k : Int) vS vT vE ab)) ∧ H' ab = some (.lst ys) ∧ ys[x]? = some v ∧ At C N H' v (absD m x), ?_, ?_⟩
    · have hi : atI xs (x : Int) = some (xs[x]'(by omega)) := at_of rfl (List.getElem?_eq_getElem _)
      have hxx : xs[x]? = some (xs[x]'(by omega)) := List.getElem?_eq_getElem _
      refine ⟨_, rfl, p, CM, dx, _, _, rfl, hp, TM.cl, TM.nA, mf_a, _, rfl, ab, xs, _, _, rfl, rfl, SqL.of hxs, hi, rfl, _, rfl, ?_⟩
      generalize hv : xs[x]'(by omega) = v at hi hxx
      rcases av x hx with h | ⟨v', h1, h2, h3⟩
      · rw [hxx] at h
        obtain rfl := Option.some.inj h
        refine itT (decide_eq_true rfl) ?_
        obtain ⟨q, rfl⟩ := hT.tupV
        obtain ⟨ts, hts, lt, et⟩ := At.tupR hT
        obtain ⟨y, hy, hyd⟩ := et x hx
        obtain ⟨ty, rfl⟩ := hyd.tupV
        refine ⟨_, rfl, p, CM, dx, _, _, rfl, hp, TM.cl, TM.nT, mf_t, _, rfl, q, ts, _, _, rfl, rfl, SqT.of hts, at_of rfl hy, N, ty, m.n, m.n, b, t, m.t x, rfl, hyd, al, n1, n1, sz, b1, by omega, fun r H1 s1 nr hr1' => ?_⟩
        have hp1 := s1 _ _ hp
        have hxs1 := s1 _ _ hxs
        have k1' : Keep N H1 (upd H1 ab (.lst (xs.set x (.ref r)))) := Keep.upd na
        refine ⟨_, rfl, p, CM, dx, _, _, rfl, hp1, TM.cl, TM.nA, mf_a, _, rfl, ab, xs, _, x, rfl, rfl, hxs1, ixN_at rfl (by omega), ?_⟩
        have hb : But ab H (upd H1 ab (.lst (xs.set x (.ref r)))) := fun c o hc n => by rw [upd_ne n]; exact s1 _ _ hc
        have lx : (xs.set x (.ref r)).length = m.k := by rw [List.length_set]; exact l
        refine ⟨.ref r, xs.set x (.ref r), rfl, hb, ?_, by rw [upd_ne pab]; exact hp1, upd_same, List.getElem?_set_self (by omega), hr1'.keep k1'⟩
        refine ⟨⟨dx, vS, _, vE, by rw [upd_ne pab]; exact hp1, (hS.same s1).keep k1', (hT.same s1).keep k1', (hE.same s1).keep k1'⟩, np, na, ⟨_, upd_same, lx, fun y hy => ?_⟩, k1, k4, n1⟩
        by_cases e : y = x
        · subst e
          exact .inr ⟨.ref r, List.getElem?_set_self (by omega), (fun z => nomatch z), hr1'.keep k1'⟩
        · rw [List.getElem?_set_ne (by omega)]
          rcases av y hy with h | ⟨v', h1, h2, h3⟩
          · exact .inl h
          · exact .inr ⟨v', h1, h2, (h3.same s1).keep k1'⟩
      · rw [hxx] at h1
        obtain rfl := Option.some.inj h1
        refine itF (decide_eq_false h2) ?_
        exact ⟨v, xs, rfl, But.refl ab H, hm0, hp, hxs, hxx, h3⟩
    · rintro σ' H1 ⟨v, ys, rfl, b1', hm1, hp1, hys, hv, hd⟩
      refine ⟨_, rfl, p, CM, dx, _, _, rfl, hp1, TM.cl, TM.nA, mf_a, _, rfl, ab, ys, _, _, rfl, rfl, SqL.of hys, at_of rfl hv, ?_⟩
      exact k v H1 b1' hm1 hd
theorem row_snoc {n : Nat} {t : Nat → Nat → Nat → Rat} {s : Nat → Rat} {u : List Nat} {x : Nat} : VN.row n t s (u ++ [x]) = fun j => VM.dot (VN.row n t s u) (fun i => t x i j) n := by
  rw [VN.row_append]
  rfl
theorem MachAt.there {C CM : Addr} {N : Addr → Prop} {H : Hp} {p ab : Addr} {m : Mc} (h : MachAt C CM N H p ab m) : H ab ≠ none := by
  obtain ⟨xs, hx, _⟩ := h.av
  rw [hx]; intro z; cases z
theorem MachAt.less {C CM : Addr} {N M : Addr → Prop} {H : Hp} {p ab : Addr} {m : Mc} (h : MachAt C CM N H p ab m) (s : ∀ b, M b → N b) (na : M ab) : MachAt C CM M H p ab m := by
  obtain ⟨⟨dx, vS, vT, vE, hp, hS, hT, hE⟩, np, _, ⟨xs, hx, l, av⟩, k1, k4, n1⟩ := h
  refine ⟨⟨dx, vS, vT, vE, hp, hS.less s, hT.less s, hE.less s⟩, fun z => np (s _ z), na, ⟨xs, hx, l, fun x hx => ?_⟩, k1, k4, n1⟩
  rcases av x hx with h | ⟨v, h1, h2, h3⟩
  · exact .inl h
  · exact .inr ⟨v, h1, h2, h3.less s⟩
theorem Keep.toBut {H H' : Hp} {a : Addr} (k : Keep (fun b => b = a) H H') : But a H H' := fun c o hc ne => k.k c o hc ne
/-- the steps of letters are gathered in a list -/
structure Gath (C CM : Addr) (N : Addr → Prop) (H0 : Hp) (D p ab : Addr) (m : Mc) (ds : List Dat) (G : Hp) : Prop where
  b : Bld C (fun b => b = ab) N H0 D ds G
  m : MachAt C CM (And1 N D) G p ab m
theorem gath0 {C CM : Addr} {N : Addr → Prop} {H0 : Hp} {D p ab : Addr} {m : Mc} (h : MachAt C CM N H0 p ab m) (nD : H0 D = none) : Gath C CM N H0 D p ab m [] (upd H0 D (.lst [])) :=
  ⟨bld0 nD, (h.and nD).same (Same.upd nD)⟩
theorem Gath.step {C CM : Addr} {N : Addr → Prop} {H0 G G' : Hp} {D p ab : Addr} {m : Mc} {ds : List Dat} {v : V} {d : Dat} (g : Gath C CM N H0 D p ab m ds G) (nD : H0 D = none) (na : N ab) (ne : ab ≠ D) (b : But ab G G') (h : MachAt C CM (And1 N D) G' p ab m) (hv : At C (And1 N D) G' v d) :
    ∃ acc, G' D = some (.lst acc) ∧ acc.length = ds.length ∧ Gath C CM N H0 D p ab m (ds ++ [d]) (upd G' D (.lst (acc ++ [v]))) := by
  obtain ⟨acc, h1, h2, h3⟩ := g.b.step nD (Keep.but (N := fun b => b = ab) b rfl h.there) (fun b e => by rw [e]; exact na) (Ne.symm ne) hv
  refine ⟨acc, h1, h2, h3, h.but (But.upd D G' _) ne (.inr rfl) (by rw [upd_same]; intro z; cases z)⟩
theorem ok_rwa {f fC fR fS fW fT C CM : Addr} {fd dC dR dS dW dT : FuncData} (F : Fun K "_row_above" "Machine._row_above" sRwa f fd) (TM : TxtM K mg CM) (cCw : CalN P w K mg base "check_word" 2 ["letters", "word"] spCw fC dC)
    (cRa : CalN P w K mg base "row_above" 34 ["row"] (spRa C) fR dR) (cSt : MetN P w K mg base CM "_step_above" 35 ["self", "letter"] (spSta C CM) fS dS) (cWr : CalN P w K mg base "whole_row_times" 1 ["row", "square"] (spWr C) fW dW)
    (cRth : CalN P w K mg base "row_through" 34 ["tops", "bottom", "steps", "lead"] (spRth C stR fW) fT dT) :
    FnOk P w K mg base CX0 36 f fd ["self", "word"] (spRwa C CM) := by
  refine F.ok scRwa (fun vs H Q E h => ?_) (fun cdv A outer s H vs Q E hr h => ?_)
  · obtain ⟨N, p, ab, m, u, b, t, rfl, _⟩ := h
    rfl
  · obtain ⟨N, p, ab, m, u, b, t, rfl, hm, al, hu, lu, sz, k⟩ := h
    have hr2 : Room 2 _ := hr.mono (by decide)
    have hr34 : Room 34 _ := hr.mono (by decide)
    have hr35 : Room 35 _ := hr
    have k1 := hm.k1
    have k4 := hm.k4
    have n1 := hm.n1
    have na := hm.na
    have b1 := sz.b1
    have t1 := sz.t1
    obtain ⟨dx, vS, vT, vE, hp, hS, hT, hE⟩ := hm.ex
    obtain ⟨qs, rfl⟩ := hS.tupV
    refine ⟨_, pss_cons (ps_expr (pe_call cCw.G hr2 rfl cCw.m cCw.kp cCw.b .nil pass0 (pa_cons (pe_fld (pv 0) rfl) (pa_cons (pv 1) pa_nil))))
      (pss_cons (ps_asg (pe_call cRa.G hr34 rfl cRa.m cRa.kp cRa.b .nil pass0 (pa_cons (pe_fld (pv 0) rfl) pa_nil)) (pg_tup rfl (pgs_cons (pg_name (i := 2) scRwa.nd rfl (.inl rfl)) (pgs_cons (pg_name (i := 3) scRwa.nd rfl (.inl rfl)) pgs_nil))))
      (pss_cons (ps_setLc (i := 4) (own := [("letter", 5)]) (g := gName 5) (tt := tYes) rfl scRwa.nd rfl rfl (sw_true rfl rfl rfl (by decide +kernel)) (pi_str (pv 1)) (blkOk_by (N := ["self", "word", "tops", "bottom", "steps", "letter"]) (sc := (defScope sRwa)) (by decide +kernel)) (fun _ _ _ _ _ => (pg_name (i := 5) scRwa.nd rfl (.inl rfl))) (fun _ _ _ _ _ => pts_nil) (fun _ _ _ _ _ => (pe_meth (pv 0) TM.cl cSt.m cSt.G hr35 cSt.b .nil pass0 (pa_cons (pv 5) pa_nil))))
      (pss_one (ps_ret (pe_call cRth.G hr34 rfl cRth.m cRth.kp cRth.b .nil pass0 (pa_cons (pv 2) (pa_cons (pv 3) (pa_cons (pv 4) (pa_cons (pe_glob (v := .ref _) (by rfl) cWr.m rfl) pa_nil))))))))), ?_⟩
    refine ⟨_, rfl, p, CM, dx, _, _, rfl, hp, TM.cl, TM.nL, mf_l, _, rfl, m.k, u, rfl, k1, k4, hu, ?_⟩
    refine ⟨_, rfl, p, CM, dx, _, _, rfl, hp, TM.cl, TM.nS, mf_s, N, qs, m.n, b, t, m.s, rfl, hS, al, n1, sz.sS, b1, by omega, fun r H1 s1 nr hr0 => ?_⟩
    obtain ⟨xs, hx, lx, ex⟩ := hr0.tupE
    match xs, lx with
    | [v0, v1], _ =>
    have h0 := ex 0 v0 _ rfl rfl
    have h1 := (ex 1 v1 _ rfl rfl).intV
    subst h1
    obtain ⟨q, rfl⟩ := h0.lstV
    refine ⟨r, _, rfl, SqT.of hx, rfl, _, _, rfl, _, _, rfl, rfl, ?_⟩
    have hm1 := hm.same s1
    have al1 := al.keep (Same.keep (N := N) s1)
    refine ⟨_, rfl, _, rfl, fun D nD => ?_⟩
    have nND := al1.fresh nD
    have ne : ab ≠ D := fun e => nND (by rw [← e]; exact na)
    refine lc_it (walk_str (z := wd u)) (fun i G => Gath C CM N H1 D p ab m (rng i fun i => absD m (u.getD i 0)) G) (gath0 hm1 nD) (fun _ _ _ _ => trivial) ?_ ?_
    · rintro i x G1 G2 hi g ⟨rfl, c, hc, rfl⟩
      have il : i < u.length := by
        have : (wd u).cps.size = u.length := wd_len
        rw [this] at hi
        exact hi
      rw [wd_at, List.getElem?_eq_getElem il] at hc
      obtain rfl := Option.some.inj hc
      have xk : u[i] < m.k := hu _ (List.getElem_mem il)
      have ed : u.getD i 0 = u[i] := by rw [List.getD_eq_getElem?_getD, List.getElem?_eq_getElem il]; rfl
      obtain ⟨dx2, vS2, vT2, vE2, hp2, _, _, _⟩ := g.m.ex
      refine ⟨rfl, _, rfl, p, dx2, _, rfl, hp2, mf_no (by decide +kernel) (by decide +kernel) (by decide +kernel) (by decide +kernel) (by decide +kernel), _, rfl, And1 N D, p, ab, m, u[i], b, t, rfl, g.m, g.b.alc al1, xk, sz.sT _ xk, b1, t1, fun v H4 b4 hm4 hv => ?_⟩
      obtain ⟨acc, h1, h2, h3⟩ := g.step nD na ne b4 hm4 hv
      refine ⟨acc, h1, by rw [h2, rng_len]; exact small1000 (by omega), ?_⟩
      rw [rng_succ, ed]
      exact h3
    · rintro G1 g
      have e1 : (wd u).cps.size = u.length := wd_len
      rw [e1] at g
      have bG : But ab H1 G1 := Keep.toBut g.b.k
      have kG : Keep N H1 G1 := g.b.k.more fun b e => by rw [e]; exact na
      have mG : MachAt C CM N G1 p ab m := g.m.less (fun _ z => .inl z) na
      have bz : t + u.length * (t + m.n) ≤ 60000000 := by
        have : u.length * (t + m.n) ≤ 400 * (100000 + 1000) := Nat.mul_le_mul lu (by omega)
        omega
      have bb : b + u.length * b ≤ 60000000 := by
        have : u.length * b ≤ 400 * 12999 := Nat.mul_le_mul lu b1
        omega
      refine ⟨_, rfl, _, rfl, _, rfl, N, q, D, m.n, u.length, b, t, b, t, _, _, fun i => m.t (u.getD i 0), fun i => rowN m (u.take i), rfl, h0.keep kG, g.b.done nND, al1.keep kG, n1, bb, bz, by omega, by omega, abv_row sz.sS, fun i hi => ?_, fun i hi z B b' t' av => ?_, fun v z B H5 s5 hv av => ?_⟩
      · have : u.getD i 0 < m.k := by
          rw [List.getD_eq_getElem?_getD, List.getElem?_eq_getElem hi]
          exact hu _ (List.getElem_mem hi)
        exact sz.sT _ this
      · have e : u.take (i + 1) = u.take i ++ [u.getD i 0] := by
          rw [List.take_add_one, List.getD_eq_getElem?_getD, List.getElem?_eq_getElem hi]
          rfl
        have xk : u.getD i 0 < m.k := by
          rw [List.getD_eq_getElem?_getD, List.getElem?_eq_getElem hi]
          exact hu _ (List.getElem_mem hi)
        have er : rowN m (u.take (i + 1)) = fun j => VM.dot (rowN m (u.take i)) (fun l => m.t (u.getD i 0) l j) m.n := by
          unfold rowN
          rw [e, row_snoc]
        show Abv m.n (rowN m (u.take (i + 1))) _ _ _ _
        rw [er]
        exact abv_step av (sz.sT _ xk)
      · simp only [List.take_length] at av
        exact k v z B H5 (((Same.but s1).trans bG).trans (Same.but s5)) (mG.same s5) hv (av.up (by rw [Nat.mul_succ, Nat.mul_comm]; omega) (Nat.le_refl _))
theorem ok_num {f fR fA fW fI C CM : Addr} {fd dR dA dW dI : FuncData} (F : Fun K "number" "Machine.number" sNum f fd) (TR : TxtR K mg C) (TM : TxtM K mg CM) (M : Mk K C fI) (GI : FnOk P w K mg base CX0 33 fI dI ["self", "top", "bottom"] (spInitB C)) (bI : Binds K dI ["self", "top", "bottom"] [])
    (cRw : MetN P w K mg base CM "_row_above" 36 ["self", "word"] (spRwa C CM) fR dR) (cRa : CalN P w K mg base "row_above" 34 ["row"] (spRa C) fA dA) (cWp : CalN P w K mg base "whole_product" 1 ["one", "other"] (spWp C) fW dW) :
    FnOk P w K mg base CX0 37 f fd ["self", "word"] (spNum C CM) := by
  refine F.ok scNum (fun vs H Q E h => ?_) (fun cdv A outer s H vs Q E hr h => ?_)
  · obtain ⟨N, p, ab, m, u, b, t, rfl, _⟩ := h
    rfl
  · obtain ⟨N, p, ab, m, u, b, t, rfl, hm, al, hu, lu, sz, k⟩ := h
    have hr1 : Room 1 _ := hr.mono (by decide)
    have hr34 : Room 34 _ := hr.mono (by decide)
    have hr36 : Room 36 _ := hr
    have n1 := hm.n1
    have na := hm.na
    have b1 := sz.b1
    have t1 := sz.t1
    obtain ⟨dx, vS, vT, vE, hp, hS, hT, hE⟩ := hm.ex
    refine ⟨_, pss_cons (ps_asg (pe_meth (pv 0) TM.cl cRw.m cRw.G hr36 cRw.b .nil pass0 (pa_cons (pv 1) pa_nil)) (pg_tup rfl (pgs_cons (pg_name (i := 2) scNum.nd rfl (.inl rfl)) (pgs_cons (pg_name (i := 3) scNum.nd rfl (.inl rfl)) pgs_nil))))
      (pss_cons (ps_asg (pe_call cRa.G hr34 rfl cRa.m cRa.kp cRa.b .nil pass0 (pa_cons (pe_fld (pv 0) rfl) pa_nil)) (pg_tup rfl (pgs_cons (pg_name (i := 4) scNum.nd rfl (.inl rfl)) (pgs_cons (pg_name (i := 5) scNum.nd rfl (.inl rfl)) pgs_nil))))
      (pss_one (ps_ret (pe_make M GI hr34 rfl TR.mgC bI .nil pass0 (pa_cons (pe_call cWp.G hr1 rfl cWp.m cWp.kp cWp.b .nil pass0 (pa_cons (pv 2) (pa_cons (pv 4) pa_nil))) (pa_cons (pe_op RQ.op_mulH (pv 3) (pv 5)) pa_nil)))))), ?_⟩
    refine ⟨_, rfl, p, dx, _, rfl, hp, mf_no (by decide +kernel) (by decide +kernel) (by decide +kernel) (by decide +kernel) (by decide +kernel), _, rfl, N, p, ab, m, u, b, t, rfl, hm, al, hu, lu, sz, fun v z B H1 b1' hm1 hv av => ?_⟩
    have there : ∀ {G : Hp}, MachAt C CM N G p ab m → G ab ≠ none := fun h => by
      obtain ⟨xs, hx, _⟩ := h.av
      rw [hx]; intro z; cases z
    have kp1 : Keep N H H1 := Keep.but b1' na (there hm1)
    obtain ⟨r, rfl⟩ := hv.tupV
    obtain ⟨xs, hx, lx, ex⟩ := hv.tupE
    match xs, lx with
    | [w0, w1], _ =>
    have h0 := ex 0 w0 _ rfl rfl
    have h1 := (ex 1 w1 _ rfl rfl).intV
    subst h1
    obtain ⟨tq, rfl⟩ := h0.lstV
    refine ⟨r, _, rfl, SqT.of hx, rfl, _, _, rfl, _, _, rfl, rfl, ?_⟩
    obtain ⟨dx1, vS1, vT1, vE1, hp1, hS1, hT1, hE1⟩ := hm1.ex
    obtain ⟨qe, rfl⟩ := hE1.tupV
    refine ⟨_, rfl, p, CM, dx1, _, _, rfl, hp1, TM.cl, TM.nE, mf_e, N, qe, m.n, b, t, m.e, rfl, hE1, al.keep kp1, n1, sz.sE, b1, by omega, fun r2 H2 s2 nr2 hr2 => ?_⟩
    obtain ⟨xs2, hx2, lx2, ex2⟩ := hr2.tupE
    match xs2, lx2 with
    | [y0, y1], _ =>
    have g0 := ex2 0 y0 _ rfl rfl
    have g1 := (ex2 1 y1 _ rfl rfl).intV
    subst g1
    obtain ⟨eq, rfl⟩ := g0.lstV
    refine ⟨r2, _, rfl, SqT.of hx2, rfl, _, _, rfl, _, _, rfl, rfl, ?_⟩
    have bz : t + u.length * (t + m.n) ≤ 60000000 := by
      have : u.length * (t + m.n) ≤ 400 * (100000 + 1000) := Nat.mul_le_mul lu (by omega)
      omega
    have bb : b * (u.length + 1) ≤ 60000000 := by
      have : b * (u.length + 1) ≤ 12999 * 401 := Nat.mul_le_mul b1 (by omega)
      omega
    refine ⟨_, rfl, _, rfl, N, tq, eq, m.n, z, _, rfl, h0.same s2, g0, n1, fun j hj => ⟨Hg.bt (av.bt j hj) bz, Hg.bt (sz.sE.t j hj) (by omega)⟩, fun H3 s3 => ?_⟩
    refine ⟨_, rfl, _, rfl, _, _, rfl, rfl, ⟨Hg.bt av.bb bb, Hg.bt sz.sE.b (by omega)⟩, fun x dx nx nd _ => ?_⟩
    have b0 : B * ((cb m.e m.n : Nat) : Int) ≠ 0 := Int.mul_ne_zero av.b0 cb_ne
    refine make4 b0 nx nd fun H4 s4 hR => ⟨rfl, ?_⟩
    have e := abv_sum (p := m.e) av (y := topz m.e ((cb m.e m.n : Nat) : Int)) (c := ((cb m.e m.n : Nat) : Int)) fun i hi => topz_eq (Int.natCast_dvd_natCast.mpr (cb_dvd hi))
    obtain ⟨e1, e2⟩ := RQ.low b0 e
    rw [e1, e2] at hR
    have sA := (s2.trans s3).trans s4
    have nH : H x = none := kp1.free ((s2.trans s3).free nx)
    exact k x H4 (b1'.trans (Same.but sA)) nH (hm1.same sA) (.rat hR (al.fresh nH))
theorem ok_call {f fN C CM : Addr} {fd dN : FuncData} (F : Fun K "__call__" "Machine.__call__" sCall f fd) (TM : TxtM K mg CM) (cNu : MetN P w K mg base CM "number" 37 ["self", "word"] (spNum C CM) fN dN) :
    FnOk P w K mg base CX0 38 f fd ["self", "word"] (spNum C CM) := by
  refine F.ok scCall (fun vs H Q E h => ?_) (fun cdv A outer s H vs Q E hr h => ?_)
  · obtain ⟨N, p, ab, m, u, b, t, rfl, _⟩ := h
    rfl
  · obtain ⟨N, p, ab, m, u, b, t, rfl, hm, al, hu, lu, sz, k⟩ := h
    have hr37 : Room 37 _ := hr
    obtain ⟨dx, vS, vT, vE, hp, hS, hT, hE⟩ := hm.ex
    refine ⟨_, pss_one (ps_ret (pe_meth (pv 0) TM.cl cNu.m cNu.G hr37 cNu.b .nil pass0 (pa_cons (pv 1) pa_nil))), ?_⟩
    exact ⟨_, rfl, p, dx, _, rfl, hp, mf_no (by decide +kernel) (by decide +kernel) (by decide +kernel) (by decide +kernel) (by decide +kernel), _, rfl, N, p, ab, m, u, b, t, rfl, hm, al, hu, lu, sz, k⟩
theorem rAll_all {bs : List Bool} (h : ∀ b ∈ bs, b = true) : bs.all id = true := by
  rw [List.all_eq_true]
  exact h
def trues (n : Nat) : List V := List.replicate n (V.bl true)
theorem trues_len {n : Nat} : (trues n).length = n := List.length_replicate
theorem trues_succ {n : Nat} : trues (n + 1) = trues n ++ [V.bl true] := List.replicate_succ'
theorem ok_fit {f C CM : Addr} {fd : FuncData} (F : Fun K "_fits" "Machine._fits" sFit f fd) (T : TxtL mg) (TM : TxtM K mg CM) (mall : mg "all" = none) : FnOk P w K mg base CX0 1 f fd ["self"] (spFit C CM) := by
  refine F.ok scFit (fun vs H Q E h => ?_) (fun cdv A outer s H vs Q E hr h => ?_)
  · obtain ⟨N, p, dx, vS, vT, vE, m, rfl, _⟩ := h
    rfl
  · obtain ⟨N, p, dx, vS, vT, vE, m, rfl, hp, hS, hT, hE, k1, k4, n1, k⟩ := h
    obtain ⟨qs, rfl⟩ := hS.tupV
    obtain ⟨qt, rfl⟩ := hT.tupV
    obtain ⟨qe, rfl⟩ := hE.tupV
    obtain ⟨xs, hxs, lxs, exs⟩ := At.tupR hS
    obtain ⟨xt, hxt, lxt, ext⟩ := At.tupR hT
    obtain ⟨xe, hxe, lxe, exe⟩ := At.tupR hE
    refine ⟨_, pss_cons (ps_set (i := 1) scFit.nd rfl (.inr rfl) (pe_callB call_len_seq (by rfl) T.len PySem.boot_len (pa_cons (pe_fld (pv 0) rfl) pa_nil)))
      (C8.pss_cut (ps_if (PW.pt (pw_or (pt_not (pt_chain op_le op_le pe_int (pe_fld (pv 0) rfl) pe_int)) (pw_or (pt_cmpR op_ne (pe_callB call_len_seq (by rfl) T.len PySem.boot_len (pa_cons (pe_fld (pv 0) rfl) pa_nil)) (pv 1) (nomark _)) (pw_or1 (pt_cmpR op_ne (pe_callB call_len_seq (by rfl) T.len PySem.boot_len (pa_cons (pe_fld (pv 0) rfl) pa_nil)) (pe_fld (pv 0) rfl) (nomark _))))))
        (pss_one (ps_ret pe_bl))
        pss_nil)
      (pss_one (ps_ret (pe_callB (cr_all rfl) (by rfl) mall (by decide +kernel) (pa_cons (pe_lc (own := [("step", 2)]) (g := gName 2) (tt := tYes) rfl scFit.nd (pi_tup (pe_fld (pv 0) rfl)) (blkOk_by (N := ["self", "size", "step", "row"]) (sc := (defScope sFit)) (by decide +kernel)) (fun _ _ _ _ _ => (pg_name (i := 2) scFit.nd rfl (.inl rfl))) (fun _ _ _ _ _ => pts_nil) (fun _ _ _ _ _ => (pe_and (pe_cmpR op_eq (pe_callB (show CallR _ (.builtin "len") (rLenS K) from call_len_seqK) (by rfl) T.len PySem.boot_len (pa_cons (pv 2) pa_nil)) (pv 1) (nomark _)) (pe_one (pe_callB (show CallR _ _ (rAll K) from cr_all rfl) (by rfl) mall (by decide +kernel) (pa_cons (pe_lc (own := [("row", 3)]) (g := gName 3) (tt := tYes) rfl scFit.nd (pi_tupK (K := K) rfl (pv 2)) (blkOk_by (N := ["self", "size", "step", "row"]) (sc := outFit0) (by decide +kernel)) (fun _ _ _ _ _ => (pg_name (i := 3) scFit.nd rfl (.inl rfl))) (fun _ _ _ _ _ => pts_nil) (fun _ _ _ _ _ => (pe_cmpR op_eq (pe_callB (show CallR _ (.builtin "len") (rLenS K) from call_len_seqK) (by rfl) T.len PySem.boot_len (pa_cons (pv 3) pa_nil)) (pv 1) (nomark _)))) pa_nil)))))) pa_nil))))), ?_⟩
    refine ⟨_, rfl, p, CM, dx, _, _, rfl, hp, TM.cl, TM.nS, mf0_s, qs, xs, rfl, .inr (SqT.of hxs), ?_⟩
    rw [lxs]
    refine ⟨fun σ' H' => σ' = [some (.ref p), some (.int (m.n : Int)), none, none] ∧ H' = H, ?_, ?_⟩
    · refine ⟨_, rfl, p, CM, dx, _, _, rfl, hp, TM.cl, TM.nL, mf0_l, _, _, rfl, rfl, _, rfl, ?_⟩
      refine itT (decide_eq_true (by omega)) ?_
      refine ⟨_, _, rfl, rfl, _, rfl, ?_⟩
      refine itF (by rw [decide_eq_true (show (m.k : Int) ≤ 4 by omega)]; rfl) ?_
      refine ⟨_, rfl, p, CM, dx, _, _, rfl, hp, TM.cl, TM.nE, mf0_e, qe, xe, rfl, .inr (SqT.of hxe), _, rfl, rfl, _, rfl, ?_⟩
      rw [lxe]
      refine itF (by rw [decide_eq_true rfl]; rfl) ?_
      refine ⟨_, rfl, p, CM, dx, _, _, rfl, hp, TM.cl, TM.nT, mf0_t, qt, xt, rfl, .inr (SqT.of hxt), _, rfl, p, CM, dx, _, _, rfl, hp, TM.cl, TM.nL, mf0_l, rfl, _, rfl, ?_⟩
      rw [lxt]
      refine itF (by rw [decide_eq_true rfl]; rfl) ?_
      exact ⟨rfl, rfl⟩
    · rintro σ' H' ⟨rfl, rfl⟩
      refine ⟨_, rfl, p, CM, dx, _, _, rfl, hp, TM.cl, TM.nT, mf0_t, qt, rfl, ⟨_, SqT.of hxt⟩, fun D nD => ?_⟩
      refine lc_it (walk_tup (K := K) (a := qt) (xs := xt)) (fun i H1 => H1 D = some (.lst (trues i)) ∧ Same H' H1) ⟨upd_same, Same.upd nD⟩ (fun i H1 _ h => SqT.of (h.2 _ _ hxt)) ?_ ?_
      · rintro i x H1 H2 hi ⟨hD, s1⟩ ⟨rfl, hx⟩
        rw [lxt] at hi
        obtain ⟨x', hx', hd⟩ := ext i hi
        rw [hx'] at hx
        obtain rfl := Option.some.inj hx
        obtain ⟨ty, rfl⟩ := hd.tupV
        obtain ⟨ys, hys, lys, eys⟩ := At.tupR (hd.same s1)
        refine ⟨rfl, _, rfl, ty, ys, rfl, .inr (SqT.of hys), _, rfl, rfl, _, rfl, ?_⟩
        rw [lys]
        refine itT (decide_eq_true rfl) ?_
        refine ⟨_, rfl, ty, rfl, ⟨_, SqT.of hys⟩, fun G nG => ?_⟩
        have GD : D ≠ G := ne_of_none hD nG
        refine lc_it (walk_tup (K := K) (a := ty) (xs := ys)) (fun j H4 => H4 G = some (.lst (trues j)) ∧ Same H2 H4) ⟨upd_same, Same.upd nG⟩ (fun i H1 _ h => SqT.of (h.2 _ _ hys)) ?_ ?_
        · rintro j y H4 H5 hj ⟨hG, s4⟩ ⟨rfl, hy⟩
          rw [lys] at hj
          obtain ⟨y', hy', hd'⟩ := eys j hj
          rw [hy'] at hy
          obtain rfl := Option.some.inj hy
          obtain ⟨tz, rfl⟩ := hd'.tupV
          obtain ⟨zs, hzs, lzs, _⟩ := At.tupR (hd'.same s4)
          refine ⟨rfl, _, rfl, tz, zs, rfl, .inr (SqT.of hzs), _, rfl, rfl, ?_⟩
          rw [lzs]
          refine ⟨_, hG, by rw [trues_len]; exact small1000 (by omega), ?_, fun c o hc => ?_⟩
          · rw [upd_same, decide_eq_true rfl, trues_succ]
          · rw [upd_ne (ne_of_none hc nG)]
            exact s4 _ _ hc
        · rintro H4 ⟨hG, s4⟩
          rw [lys] at hG
          refine ⟨G, List.replicate m.n true, rfl, SqL.of (by rw [hG]; unfold trues; rw [List.map_replicate]), ?_⟩
          rw [show (List.replicate m.n true).all id = true from rAll_all fun b hb => (List.eq_of_mem_replicate hb)]
          refine ⟨_, s4 _ _ hD, by rw [trues_len]; exact small1000 (by omega), ?_, fun c o hc => ?_⟩
          · rw [upd_same, trues_succ]
          · rw [upd_ne (ne_of_none hc nD)]
            exact s4 _ _ (s1 _ _ hc)
      · rintro H1 ⟨hD, s1⟩
        rw [lxt] at hD
        refine ⟨D, List.replicate m.k true, rfl, SqL.of (by rw [hD]; unfold trues; rw [List.map_replicate]), ?_⟩
        rw [show (List.replicate m.k true).all id = true from rAll_all fun b hb => (List.eq_of_mem_replicate hb)]
        exact k H1 s1
end
end RX

set_option Elab.async false
set_option maxRecDepth 100000
namespace RX
open PySem L2 LX VA
open RQ (Hg Bt)
theorem tup_of {K : PySem.W.Frag} {C : Addr} {N : Addr → Prop} {H : Hp} {q : Addr} {ds : List Dat} {Q : VK} (h : At C N H (.ref q) (.sq ds)) (al : Alc N H) (k : ∀ (r : Addr) (H' : Hp), Same H H' → At C N H' (.ref r) (.tup ds) → Q (.ref r) H') : rTupO K [.ref q] H Q := by
  have nq := h.notin
  obtain ⟨xs, hq, l, e⟩ := h.sqE
  rcases hq with hq | hq
  · exact ⟨q, xs, rfl, .inr ⟨SqT.of hq, k q H (Same.refl H) (.tup hq nq l e)⟩⟩
  · exact ⟨q, xs, rfl, .inl ⟨SqL.of hq, fun r nr => k r _ (Same.upd nr) (At.newT al nr l e)⟩⟩
theorem tCB_tup {K : PySem.W.Frag} {C : Addr} {N : Addr → Prop} {σ : L2.St} {H : Hp} {te : TE} {q : Addr} {ds : List Dat} {Q : VK} (ht : ∀ Q : VK, Q (.ref q) H → te σ H Q) (h : At C N H (.ref q) (.sq ds)) (al : Alc N H) (k : ∀ (r : Addr) (H' : Hp), Same H H' → At C N H' (.ref r) (.tup ds) → Q (.ref r) H') : tCB (rTupO K) (tCons te tNil) σ H Q :=
  ht _ (tup_of h al k)
theorem or_walk {K : PySem.W.Frag} {σ : L2.St} {H : Hp} {R : It → Hp → Prop} {te : TE} {q : Addr} {xs : List V} (ht : ∀ Q : VK, Q (.ref q) H → te σ H Q) (hq : H q = some (.tup xs) ∨ H q = some (.lst xs))
    (h : ∀ J : It, Walk J xs.length (fun H' => H' q = H q) (YAt xs) → R J H) : iList K te σ H R ∨ iTup K te σ H R := by
  rcases hq with hq | hq
  · refine .inr (ht _ ⟨q, rfl, ⟨xs, SqT.of hq⟩, h _ (walk_tup.mono (fun H' e => SqT.of (e.trans hq)) fun _ _ _ _ _ _ y => y)⟩)
  · refine .inl (ht _ ⟨q, rfl, ⟨xs, SqL.of hq⟩, h _ (walk_list.mono (fun H' e => SqL.of (e.trans hq)) fun _ _ _ _ _ _ y => y)⟩)
theorem flat_one : ∀ {n : Nat}, (List.replicate n [V.non]).flatten = List.replicate n V.non
  | 0 => rfl
  | n + 1 => by
    rw [List.replicate_succ, List.flatten_cons, flat_one, List.replicate_succ]
    rfl
def sqS (m : Mc) : Dat := .sq (rng m.k fun x => .sq (rng m.n fun i => .sq (rng m.n fun j => .rat (m.t x i j))))
def sqR (n : Nat) (u : Nat → Rat) : Dat := .sq (rng n fun j => .rat (u j))
def spMi (C CM : Addr) : Sp := fun vs H Q _ => ∃ (N : Addr → Prop) (p dx : Addr) (vS vT vE : V) (m : Mc), vs = [.ref p, .int (m.k : Int), vS, vT, vE] ∧ H p = some (.ins CM dx []) ∧ At C (And1 N p) H vS (sqR m.n m.s) ∧ At C (And1 N p) H vT (sqS m) ∧ At C (And1 N p) H vE (sqR m.n m.e) ∧ 1 ≤ m.k ∧ m.k ≤ 4 ∧ m.n ≤ 1000 ∧ Alc N H ∧ ¬ N p ∧
  ∀ (ab : Addr) (H' : Hp), (∀ c o, H c = some o → c ≠ p → H' c = some o) → H ab = none → MachAt C CM (And1 N ab) H' p ab m → H' ab = some (.lst (List.replicate m.k .non)) → Q .non H'
section
variable {P : Program} {w : World} {K : PySem.W.Frag} {mg : Str → Option Value} {base : Heap}
theorem ok_mi {f fF C CM : Addr} {fd dF : FuncData} (F : Fun K "__init__" "Machine.__init__" sMi f fd) (TP : TxtP mg) (TM : TxtM K mg CM) (cFi : MetN P w K mg base CM "_fits" 1 ["self"] (spFit C CM) fF dF) :
    FnOk P w K mg base CX0 2 f fd ["self", "letters", "start", "steps", "end"] (spMi C CM) := by
  refine F.ok scMi (fun vs H Q E h => ?_) (fun cdv A outer s H vs Q E hr h => ?_)
  · obtain ⟨N, p, dx, vS, vT, vE, m, rfl, _⟩ := h
    rfl
  · obtain ⟨N, p, dx, vS, vT, vE, m, rfl, hp, hS, hT, hE, k1, k4, n1, al, np, k⟩ := h
    have hr1 : Room 1 _ := hr
    obtain ⟨qS, rfl⟩ := hS.sqV
    obtain ⟨qT, rfl⟩ := hT.sqV
    obtain ⟨qE, rfl⟩ := hE.sqV
    have pN : And1 N p p := .inr rfl
    have al' : Alc (And1 N p) H := al.and (by rw [hp]; intro z; cases z)
    refine ⟨_, pss_cons (ps_fld (pv 0) (pv 1) rfl)
      (pss_cons (ps_fld (pv 0) (pe_callTy (T := "tuple") call_tuple_of (by rfl) TP.tup (by decide +kernel) (pa_cons (pv 2) pa_nil)) rfl)
      (pss_cons (ps_fld (pv 0) (pe_callTy (T := "tuple") call_tuple_of (by rfl) TP.tup (by decide +kernel) (pa_cons (pe_lc (own := [("step", 5)]) (g := gName 5) (tt := tYes) rfl scMi.nd (XC.pi_or (pi_list (pv 3)) (pi_tup (pv 3))) (blkOk_by (N := ["self", "letters", "start", "steps", "end", "step", "row"]) (sc := (defScope sMi)) (by decide +kernel)) (fun _ _ _ _ _ => (pg_name (i := 5) scMi.nd rfl (.inl rfl))) (fun _ _ _ _ _ => pts_nil) (fun _ _ _ _ _ => (pe_callTy (T := "tuple") (show CallR _ (.type "tuple") (rTupO K) from call_tupK) (by rfl) TP.tup (by decide +kernel) (pa_cons (pe_lc (own := [("row", 6)]) (g := gName 6) (tt := tYes) rfl scMi.nd (XC.pi_or (pi_listK (K := K) rfl (pv 5)) (pi_tupK (K := K) rfl (pv 5))) (blkOk_by (N := ["self", "letters", "start", "steps", "end", "step", "row"]) (sc := outMi0) (by decide +kernel)) (fun _ _ _ _ _ => (pg_name (i := 6) scMi.nd rfl (.inl rfl))) (fun _ _ _ _ _ => pts_nil) (fun _ _ _ _ _ => (pe_callTy (T := "tuple") (show CallR _ (.type "tuple") (rTupO K) from call_tupK) (by rfl) TP.tup (by decide +kernel) (pa_cons (pv 6) pa_nil)))) pa_nil)))) pa_nil)) rfl)
      (pss_cons (ps_fld (pv 0) (pe_callTy (T := "tuple") call_tuple_of (by rfl) TP.tup (by decide +kernel) (pa_cons (pv 4) pa_nil)) rfl)
      (pss_cons (ps_if (pt_not (pt_val (pe_meth0 (pv 0) TM.cl cFi.m cFi.G hr1 cFi.b .nil pass0)))
        (pss_one ps_never)
        pss_nil)
      (pss_one (ps_fld (pv 0) (pe_op op_rep (pe_lst (pa_cons pe_non pa_nil)) (pv 1)) rfl)))))), ?_⟩
    -- letters
    refine ⟨_, rfl, _, rfl, p, CM, dx, _, rfl, hp, TM.cl, TM.nL, (by show 0 < 1000; decide), ?_⟩
    have hp1 : (upd H p (.ins CM dx (putF "letters" (.int (m.k : Int)) []))) p = some (.ins CM dx (putF "letters" (.int (m.k : Int)) [])) := upd_same
    have b1 : But p H (upd H p (.ins CM dx (putF "letters" (.int (m.k : Int)) []))) := But.upd p H _
    have kk1 : Keep (And1 N p) H (upd H p (.ins CM dx (putF "letters" (.int (m.k : Int)) []))) := Keep.upd pN
    generalize upd H p (.ins CM dx (putF "letters" (.int (m.k : Int)) [])) = H1 at *
    have hS := hS.keep kk1
    have hT := hT.keep kk1
    have hE := hE.keep kk1
    have al1 := al'.keep kk1
    -- start
    dsimp only [tSeq, sFld]
    refine tCB_tup (K := K) (te := tVar 2) (q := qS) ?_ hS al1 ?_
    · exact fun Q h => ⟨_, rfl, h⟩
    intro rS H2 s2 hS2
    refine ⟨_, rfl, p, CM, dx, _, rfl, s2 _ _ hp1, TM.cl, TM.nS, (by show 1 < 1000; decide), ?_⟩
    have kk2 : Keep (And1 N p) H1 (upd H2 p (.ins CM dx (putF "start" (.ref rS) (putF "letters" (.int (m.k : Int)) [])))) := (Same.keep s2).trans (Keep.upd pN)
    have kS2 : Keep (And1 N p) H2 (upd H2 p (.ins CM dx (putF "start" (.ref rS) (putF "letters" (.int (m.k : Int)) [])))) := Keep.upd pN
    have b2 : But p H (upd H2 p (.ins CM dx (putF "start" (.ref rS) (putF "letters" (.int (m.k : Int)) [])))) := (b1.trans (Same.but s2)).trans (But.upd p _ _)
    have hp2 : (upd H2 p (.ins CM dx (putF "start" (.ref rS) (putF "letters" (.int (m.k : Int)) [])))) p = some (.ins CM dx (putF "start" (.ref rS) (putF "letters" (.int (m.k : Int)) []))) := upd_same
    have hS := hS2.keep kS2
    generalize upd H2 p (.ins CM dx (putF "start" (.ref rS) (putF "letters" (.int (m.k : Int)) []))) = H3 at *
    have hT := hT.keep kk2
    have hE := hE.keep kk2
    have al3 := al1.keep kk2
    -- steps
    obtain ⟨xT, hxT, lT, eT⟩ := At.sqR hT
    refine or_walk (q := qT) (xs := xT) (fun Q h => ⟨_, rfl, h⟩) hxT fun J wJ D nD => ?_
    have qTe : ∀ {G : Hp}, Same H3 G → G qT = H3 qT := fun s => by
      rcases hxT with h | h <;> rw [h, s _ _ h]
    refine lc_it wJ (fun i G => Bld C Emp (And1 N p) H3 D (rng i fun x => ratT m.n m.n (m.t x)) G) (bld0 nD) (fun i G _ b => qTe b.k.same) ?_ ?_
    · rintro i x G1 G2 hi b ⟨rfl, hx⟩
      rw [lT] at hi
      obtain ⟨x', hx', hd⟩ := eT i hi
      rw [hx'] at hx
      obtain rfl := Option.some.inj hx
      obtain ⟨qx, rfl⟩ := hd.sqV
      have hd2 := b.old nD (fun _ z => z.elim) hd
      have alb := b.alc al3
      obtain ⟨xs2, hxs2, l2, e2⟩ := At.sqR hd2
      refine ⟨rfl, ?_⟩
      refine or_walk (q := qx) (xs := xs2) (fun Q h => ⟨_, rfl, h⟩) hxs2 fun J2 wJ2 D2 nD2 => ?_
      have qxe : ∀ {G : Hp}, Same G2 G → G qx = G2 qx := fun s => by
        rcases hxs2 with h | h <;> rw [h, s _ _ h]
      refine lc_it wJ2 (fun r G => Bld C Emp (And1 (And1 N p) D) G2 D2 (rng r fun r => ratR m.n (m.t i r)) G) (bld0 nD2) (fun i G _ b => qxe b.k.same) ?_ ?_
      · rintro r y G3 G4 hr b4 ⟨rfl, hy⟩
        rw [l2] at hr
        obtain ⟨y', hy', hd'⟩ := e2 r hr
        rw [hy'] at hy
        obtain rfl := Option.some.inj hy
        obtain ⟨qy, rfl⟩ := hd'.sqV
        have hd4 := b4.old nD2 (fun _ z => z.elim) hd'
        have al4 := b4.alc alb
        refine ⟨rfl, ?_⟩
        dsimp only [tYes]
        rw [if_pos rfl]
        refine tCB_tup (K := K) (te := tVar 6) (q := qy) ?_ hd4 al4 ?_
        · exact fun Q h => ⟨_, rfl, h⟩
        intro z G5 s5 hz
        obtain ⟨acc, h1, h2, h3⟩ := b4.step nD2 (Same.keep s5) (fun _ z => z.elim) id hz
        refine ⟨acc, h1, by rw [h2, rng_len]; exact small1000 (by omega), ?_⟩
        rw [rng_succ]
        exact h3
      · rintro G3 b4
        rw [l2] at b4
        have nD2' := alb.fresh nD2
        obtain ⟨ys, hys, ly, ey⟩ := (b4.done nD2').lstE
        refine ⟨D2, ys, rfl, .inl ⟨SqL.of hys, fun r2 nr2 => ?_⟩⟩
        have hz := At.newT (alb.keep b4.k) nr2 ly ey
        obtain ⟨acc, h1, h2, h3⟩ := b.step nD (b4.k.trans (Keep.new nr2)) (fun _ z => z.elim) id hz
        refine ⟨acc, h1, by rw [h2, rng_len]; exact small1000 (by omega), ?_⟩
        rw [rng_succ]
        exact h3
    · rintro G1 b
      rw [lT] at b
      have nD' := al3.fresh nD
      obtain ⟨ys, hys, ly, ey⟩ := (b.done nD').lstE
      refine ⟨D, ys, rfl, .inl ⟨SqL.of hys, fun rT nrT => ?_⟩⟩
      have hT4 := At.newT (al3.keep b.k) nrT ly ey
      have s4 := b.k.same.trans (Same.upd (o := .tup ys) nrT)
      generalize upd G1 rT (.tup ys) = H4 at *
      have kS4 : Keep (And1 N p) H3 H4 := Same.keep s4
      have hS := hS.keep kS4
      have hE := hE.keep kS4
      have al4 := al3.keep kS4
      refine ⟨_, rfl, p, CM, dx, _, rfl, s4 _ _ hp2, TM.cl, TM.nT, (by show 2 < 1000; decide), ?_⟩
      have kk5 : Keep (And1 N p) H4 (upd H4 p (.ins CM dx (putF "steps" (.ref rT) (putF "start" (.ref rS) (putF "letters" (.int (m.k : Int)) []))))) := Keep.upd pN
      have b5 : But p H (upd H4 p (.ins CM dx (putF "steps" (.ref rT) (putF "start" (.ref rS) (putF "letters" (.int (m.k : Int)) []))))) := (b2.trans (Same.but s4)).trans (But.upd p _ _)
      have hp5 : (upd H4 p (.ins CM dx (putF "steps" (.ref rT) (putF "start" (.ref rS) (putF "letters" (.int (m.k : Int)) []))))) p = some (.ins CM dx (putF "steps" (.ref rT) (putF "start" (.ref rS) (putF "letters" (.int (m.k : Int)) [])))) := upd_same
      generalize upd H4 p (.ins CM dx (putF "steps" (.ref rT) (putF "start" (.ref rS) (putF "letters" (.int (m.k : Int)) [])))) = H5 at *
      have hS := hS.keep kk5
      have hT := hT4.keep kk5
      have hE := hE.keep kk5
      have al5 := al4.keep kk5
      -- end
      refine tCB_tup (K := K) (te := tVar 4) (q := qE) ?_ hE al5 ?_
      · exact fun Q h => ⟨_, rfl, h⟩
      intro rE H6 s6 hE6
      refine ⟨_, rfl, p, CM, dx, _, rfl, s6 _ _ hp5, TM.cl, TM.nE, (by show 3 < 1000; decide), ?_⟩
      have kk7 : Keep (And1 N p) H6 (upd H6 p (.ins CM dx (mf0 (m.k : Int) (.ref rS) (.ref rT) (.ref rE)))) := Keep.upd pN
      have b7 : But p H (upd H6 p (.ins CM dx (mf0 (m.k : Int) (.ref rS) (.ref rT) (.ref rE)))) := (b5.trans (Same.but s6)).trans (But.upd p _ _)
      have hp7 : (upd H6 p (.ins CM dx (mf0 (m.k : Int) (.ref rS) (.ref rT) (.ref rE)))) p = some (.ins CM dx (mf0 (m.k : Int) (.ref rS) (.ref rT) (.ref rE))) := upd_same
      show (tIfS _ _ _) _ _ (upd H6 p (.ins CM dx (mf0 (m.k : Int) (.ref rS) (.ref rT) (.ref rE))))
      generalize upd H6 p (.ins CM dx (mf0 (m.k : Int) (.ref rS) (.ref rT) (.ref rE))) = H7 at *
      have hS := (hS.same s6).keep kk7
      have hT := (hT.same s6).keep kk7
      have hE := hE6.keep kk7
      have al7 := (al5.keep (Same.keep (N := Emp) s6)).keep kk7
      refine ⟨_, rfl, p, dx, _, rfl, hp7, mf0_no (by decide +kernel) (by decide +kernel) (by decide +kernel) (by decide +kernel), And1 N p, p, dx, _, _, _, m, rfl, hp7, hS, hT, hE, k1, k4, n1, fun H8 s8 => ⟨true, rfl, ?_⟩⟩
      refine iteF ?_
      refine ⟨(by show 1 ≤ sizeLine; decide), fun L nL => ?_⟩
      have sL : Same H7 (upd H8 L (.lst [.non])) := s8.trans (Same.upd nL)
      refine ⟨_, rfl, L, _, _, rfl, rfl, upd_same, by omega, by omega, ?_, fun ab nab => ?_⟩
      · show 1 * _ ≤ sizeLine
        rw [Nat.one_mul, Int.toNat_natCast]
        exact Nat.le_of_lt (small1000 (by omega))
      generalize upd H8 L (.lst [.non]) = H9 at *
      have hp9 := sL _ _ hp7
      have pab : p ≠ ab := ne_of_none hp9 nab
      have e0 : (List.replicate (((m.k : Nat) : Int).toNat) [V.non]).flatten = List.replicate m.k V.non := by
        rw [Int.toNat_natCast]
        exact flat_one
      have b9 : But p H H9 := b7.trans (Same.but sL)
      have nabH : H ab = none := by
        cases q : H ab with
        | none => rfl
        | some o =>
          have := b9 ab o q (Ne.symm pab)
          rw [nab] at this
          cases this
      have up : ∀ {v : V} {d : Dat}, At C (And1 N p) H7 v d → At C (And1 N ab) (upd (upd H9 ab (.lst (List.replicate (((m.k : Nat) : Int).toNat) [V.non]).flatten)) p (.ins CM dx (mf (m.k : Int) (.ref rS) (.ref rT) (.ref rE) ab))) v d := fun {v d} h => by
        have h1 := (h.same sL).and nab
        have h2 := (h1.keep (Keep.upd (o := .lst (List.replicate (((m.k : Nat) : Int).toNat) [V.non]).flatten) (.inr rfl))).keep (Keep.upd (D := p) (o := .ins CM dx (mf (m.k : Int) (.ref rS) (.ref rT) (.ref rE) ab)) (.inl (.inr rfl)))
        exact h2.less fun b z => z.imp .inl id
      refine ⟨_, rfl, p, CM, dx, _, rfl, by rw [upd_ne pab]; exact hp9, TM.cl, TM.nA, (by show 4 < 1000; decide), ?_⟩
      refine k ab (upd (upd H9 ab (.lst (List.replicate (((m.k : Nat) : Int).toNat) [V.non]).flatten)) p (.ins CM dx (mf (m.k : Int) (.ref rS) (.ref rT) (.ref rE) ab))) (fun c o hc ne => ?_) nabH ⟨⟨dx, _, _, _, upd_same, up hS, up hT, up hE⟩, fun z => ?_, .inr rfl, ⟨List.replicate m.k .non, by rw [upd_ne (Ne.symm pab), upd_same, e0], List.length_replicate, fun x hx => .inl ?_⟩, k1, k4, n1⟩ (by rw [upd_ne (Ne.symm pab), upd_same, e0])
      · rw [upd_ne ne, upd_ne (ne_of_none hc nabH)]
        exact b9 _ _ hc ne
      · rcases z with z | z
        · exact np z
        · exact pab z
      · rw [List.getElem?_replicate, if_pos hx]
end
end RX

set_option Elab.async false
set_option maxRecDepth 100000
namespace RX
open PySem L2 LX VA VM
open RQ (Hg Bt)
abbrev sNumber : Stmt := topS 45
theorem scNu : FnScope ["feed", "wide", "kind", "above"] ["feed", "wide"] (defScope sNumber) := ⟨rfl, rfl, rfl, by decide +kernel, rfl, by decide +kernel, by decide +kernel⟩
abbrev sLine : Stmt := topS 46
theorem scLi : FnScope ["feed", "width", "wide", "k"] ["feed", "width", "wide"] (defScope sLine) := ⟨rfl, rfl, rfl, by decide +kernel, rfl, by decide +kernel, by decide +kernel⟩
abbrev sWord : Stmt := topS 50
theorem scWo : FnScope ["feed", "letters", "length", "k"] ["feed", "letters", "length"] (defScope sWord) := ⟨rfl, rfl, rfl, by decide +kernel, rfl, by decide +kernel, by decide +kernel⟩
abbrev sDrawn : Stmt := topS 53
theorem scDn : FnScope ["feed", "letters", "size", "wide", "steps", "k", "place"] ["feed"] (defScope sDrawn) := ⟨rfl, rfl, rfl, by decide +kernel, rfl, by decide +kernel, by decide +kernel⟩
def partsD (m : Mc) : Dat := .lst [prL m.n m.s, .lst (rng m.k fun x => prT m.n m.n (m.t x)), prL m.n m.e]
theorem le_row {n : Nat} {u : Nat → Rat} : Le (ratR n u) (sqR n u) := Le.tupR fun _ _ => .refl _
theorem le_steps {m : Mc} : Le (stepsD m) (sqS m) := Le.tupR fun _ _ => Le.tupR fun _ _ => Le.tupR fun _ _ => .refl _
def NumB (q : Rat) : Prop := Bt 72 q.num ∧ Bt 72 (q.den : Int)
theorem numB0 : NumB 0 := ⟨bt0 _, show (1 : Int).natAbs < 2 ^ 72 by decide⟩
/-- the address alone -/
def K1 (a : Addr) : Addr → Prop := fun b => b = a
theorem Keep.to {a : Addr} {H H' : Hp} (k : Keep (K1 a) H H') : But a H H' := fun b o h n => k.k b o h n
theorem FeedAt.there {H : Hp} {a cl : Addr} (f : FeedAt H a cl) : H a ≠ none := by
  obtain ⟨xs, h⟩ := f.lst
  rw [h]; intro z; cases z
theorem keep_feed {a cl : Addr} {H H' : Hp} (b : But a H H') (f : FeedAt H' a cl) : Keep (K1 a) H H' := Keep.but b rfl f.there
theorem FeedAt.ne_new {H : Hp} {a cl r : Addr} (h : FeedAt H a cl) (n : H r = none) : r ≠ a ∧ r ≠ cl := by
  obtain ⟨cs, i, p, s, f⟩ := h
  exact ⟨(ne_of_none f.hA n).symm, (ne_of_none f.hC n).symm⟩
def spNm : Sp := fun vs H Q _ => ∃ (a cl : Addr) (wd : Int), vs = [.ref a, .int wd] ∧ FeedAt H a cl ∧ 0 ≤ wd ∧ wd ≤ 4 ∧ ∀ (r : Addr) (q : Rat) (H' : Hp), FeedAt H' a cl → But a H H' → H r = none → PrQ H' r q → NumB q → Q (.ref r) H'
def spLn (C : Addr) : Sp := fun vs H Q _ => ∃ (N : Addr → Prop) (a cl : Addr) (n : Nat) (wd : Int), vs = [.ref a, .int (n : Int), .int wd] ∧ FeedAt H a cl ∧ 0 ≤ wd ∧ wd ≤ 4 ∧ n ≤ 1000 ∧ Alc N H ∧ N a ∧
  ∀ (r : Addr) (u : Nat → Rat) (H' : Hp), FeedAt H' a cl → But a H H' → H r = none → At C N H' (.ref r) (prL n u) → (∀ j, NumB (u j)) → Q (.ref r) H'
/-- numbers over one bottom -/
structure RowB (n b t : Nat) (u : Nat → Rat) : Prop where
  ex : ∃ M : Int, M ≠ 0 ∧ Bt b M ∧ ∀ j, j < n → Ov M t (u j)
structure TabB (h n b t : Nat) (U : Nat → Nat → Rat) : Prop where
  ex : ∃ M : Int, M ≠ 0 ∧ Bt b M ∧ ∀ i, i < h → ∀ j, j < n → Ov M t (U i j)
theorem RowB.up {n b t b' t' : Nat} {u : Nat → Rat} (h : RowB n b t u) (l : b ≤ b') (k : t ≤ t') : RowB n b' t' u := let ⟨M, m0, bM, o⟩ := h.ex; ⟨M, m0, bM.up l, fun j hj => (o j hj).up k⟩
theorem TabB.up {g n b t b' t' : Nat} {u : Nat → Nat → Rat} (h : TabB g n b t u) (l : b ≤ b') (k : t ≤ t') : TabB g n b' t' u := let ⟨M, m0, bM, o⟩ := h.ex; ⟨M, m0, bM.up l, fun i hi j hj => (o i hi j hj).up k⟩
theorem rowB_drawn {n : Nat} {u : Nat → Rat} (h : ∀ j, NumB (u j)) : RowB n (72 * n + 1) (72 + (72 * n + 1)) u := ⟨VN.dens u n, VN.dens_ne, VN.dens_bt fun i _ => (h i).2, VN.dens_ov fun i _ => h i⟩
theorem rowB_zero {n : Nat} : RowB n 1 73 fun _ => 0 := ⟨1, by decide, show (1 : Int).natAbs < 2 ^ 1 by decide, fun _ _ => Ov.zero _ _⟩
theorem rowB_set {n b t j : Nat} {u : Nat → Rat} {q : Rat} (h : RowB n b t u) (hq : NumB q) (bt : b + 72 ≤ t + 72) : RowB n (b + 72) (t + 72) (fun i => if i = j then q else u i) := by
  obtain ⟨M, m0, bM, o⟩ := h.ex
  refine ⟨M * (q.den : Int), Int.mul_ne_zero m0 (den_ne q), bM.mul hq.2, fun i hi => ?_⟩
  show Ov _ _ (if i = j then q else u i)
  by_cases e : i = j
  · rw [if_pos e]
    exact (((Ov.self hq.1).lift bM).comm).up (by omega)
  · rw [if_neg e]
    exact (o i hi).lift hq.2
theorem tabB_none {n : Nat} {U : Nat → Nat → Rat} {t : Nat} : TabB 0 n 1 t U := ⟨1, by decide, show (1 : Int).natAbs < 2 ^ 1 by decide, fun i hi => absurd hi (by omega)⟩
theorem tabB_row {h n b t b1 t1 : Nat} {U : Nat → Nat → Rat} {u : Nat → Rat} (x : TabB h n b t U) (y : RowB n b1 t1 u) (l : t1 + b ≤ t + b1) : TabB (h + 1) n (b + b1) (t + b1) (fun i => if i = h then u else U i) := by
  obtain ⟨M, m0, bM, o⟩ := x.ex
  obtain ⟨K', k0, bK, p⟩ := y.ex
  refine ⟨M * K', Int.mul_ne_zero m0 k0, bM.mul bK, fun i hi j hj => ?_⟩
  show Ov _ _ ((if i = h then u else U i) j)
  by_cases e : i = h
  · rw [if_pos e]
    exact (((p j hj).lift bM).comm).up l
  · rw [if_neg e]
    exact (o i (by omega) j hj).lift bK
structure PszA (m : Mc) : Prop where
  s : RowB m.n 5801 6162 m.s
  e : RowB m.n 5801 6162 m.e
  t : ∀ x, TabB m.n m.n 5801 6162 (m.t x)
  k1 : 1 ≤ m.k
  k4 : m.k ≤ 4
  n1 : m.n ≤ 20
def spWo : Sp := fun vs H Q _ => ∃ (a cl : Addr) (k n : Nat), vs = [.ref a, .int (k : Int), .int (n : Int)] ∧ FeedAt H a cl ∧ 1 ≤ k ∧ k ≤ 4 ∧ n ≤ 400 ∧ ∀ (u : List Nat) (H' : Hp), u.length = n → Ltk k u → FeedAt H' a cl → But a H H' → Q (.str (wd u)) H'
/-- all that the law draws of a machine -/
structure Shn (m : Mc) : Prop where
  k1 : 1 ≤ m.k
  k4 : m.k ≤ 4
  n4 : m.n ≤ 4
  s : ∀ j, NumB (m.s j)
  e : ∀ j, NumB (m.e j)
  t : ∀ x i j, NumB (m.t x i j)
theorem tabB_any {n : Nat} {U : Nat → Nat → Rat} (h : ∀ i j, NumB (U i j)) : ∀ g : Nat, TabB g n ((72 * n + 1) * g + 1) (72 + (72 * n + 1) * g + 1) U
  | 0 => tabB_none
  | g + 1 => by
    have x := tabB_row (tabB_any h g) (rowB_drawn (n := n) (h g)) (by omega)
    have e : (fun i => if i = g then U g else U i) = U := by
      funext i
      by_cases z : i = g
      · rw [if_pos z, z]
      · rw [if_neg z]
    rw [e] at x
    exact x.up (by rw [Nat.mul_succ]; omega) (by rw [Nat.mul_succ]; omega)
theorem Shn.psz {m : Mc} (h : Shn m) : PszA m := by
  have n4 := h.n4
  have le : (72 * m.n + 1) * m.n ≤ 289 * 4 := Nat.mul_le_mul (by omega) n4
  exact ⟨(rowB_drawn h.s).up (by omega) (by omega), (rowB_drawn h.e).up (by omega) (by omega), fun x => (tabB_any (h.t x) m.n).up (by omega) (by omega), h.k1, h.k4, by omega⟩
def spDn (C : Addr) : Sp := fun vs H Q _ => ∃ (N : Addr → Prop) (a cl : Addr), vs = [.ref a] ∧ FeedAt H a cl ∧ Alc N H ∧ N a ∧
  ∀ (r : Addr) (m : Mc) (H' : Hp), FeedAt H' a cl → But a H H' → H r = none → At C N H' (.ref r) (partsD m) → Shn m → Q (.ref r) H'
section
variable {P : Program} {w : World} {K : PySem.W.Frag} {mg : Str → Option Value} {base : Heap}
theorem ok_nm {f fD fG fP : Addr} {fd dD dG dP : FuncData} (F : Fun K "_law_number" "_law_number" sNumber f fd) (T : TxtL mg) (cDr : CalN P w K mg base "_law_draw" 1 ["feed", "limit"] spDraw fD dD) (cGr : CalN P w K mg base "_law_great" 2 ["feed", "parts"] spGreat fG dG) (cPa : CalN P w K mg base "_law_pair" 33 ["above", "below"] spPairB fP dP) :
    FnOk P w K mg base CX0 34 f fd ["feed", "wide"] spNm := by
  refine F.ok scNu (fun vs H Q E h => ?_) (fun cdv A outer s H vs Q E hr h => ?_)
  · obtain ⟨a, cl, wd, rfl, _⟩ := h
    rfl
  · obtain ⟨a, cl, wd, rfl, hF, h0, h1, kk⟩ := h
    have hr1 : Room 1 _ := hr.mono (by decide)
    have hr2 : Room 2 _ := hr.mono (by decide)
    have hr33 : Room 33 _ := hr
    refine ⟨_, pss_cons (ps_set (i := 2) scNu.nd rfl (.inl rfl) (pe_call cDr.G hr1 rfl cDr.m cDr.kp cDr.b .nil pass0 (pa_cons (pv 0) (pa_cons pe_int pa_nil))))
      (pss_cons (ps_if (pt_cmpR op_lt (pv 2) pe_int (nomark _))
        (pss_one (ps_ret (pe_tup (pa_cons pe_int (pa_cons pe_int pa_nil)))))
        pss_nil)
      (pss_cons (ps_if (pt_cmpR op_lt (pv 2) pe_int (nomark _))
        (pss_one (ps_ret (pe_tup (pa_cons (pe_op op_sub (pe_call cDr.G hr1 rfl cDr.m cDr.kp cDr.b .nil pass0 (pa_cons (pv 0) (pa_cons pe_int pa_nil))) pe_int) (pa_cons pe_int pa_nil)))))
        pss_nil)
      (C8.pss_cut (ps_if (PW.pt (pw_and (pt_cmpR op_eq (pv 2) pe_int (nomark _)) (pw_and1 (pt_cmpR op_gt (pv 1) pe_int (nomark _)))))
        (pss_cons (ps_set (i := 3) scNu.nd rfl (.inl rfl) (pe_op RQ.op_mulH (pe_call cGr.G hr2 rfl cGr.m cGr.kp cGr.b .nil pass0 (pa_cons (pv 0) (pa_cons (pv 1) pa_nil))) (pe_op op_sub pe_int (pe_op RQ.op_mulH pe_int (pe_call cDr.G hr1 rfl cDr.m cDr.kp cDr.b .nil pass0 (pa_cons (pv 0) (pa_cons pe_int pa_nil)))))))
        (pss_one (ps_ret (pe_call cPa.G hr33 rfl cPa.m cPa.kp cPa.b .nil pass0 (pa_cons (pv 3) (pa_cons (pe_callB (call_max2 rfl) (by rfl) T.max (by decide +kernel) (pa_cons pe_int (pa_cons (pe_call cGr.G hr2 rfl cGr.m cGr.kp cGr.b .nil pass0 (pa_cons (pv 0) (pa_cons (pv 1) pa_nil))) pa_nil))) pa_nil))))))
        pss_nil)
      (pss_one (ps_ret (pe_call cPa.G hr33 rfl cPa.m cPa.kp cPa.b .nil pass0 (pa_cons (pe_op op_sub (pe_call cDr.G hr1 rfl cDr.m cDr.kp cDr.b .nil pass0 (pa_cons (pv 0) (pa_cons pe_int pa_nil))) pe_int) (pa_cons (pe_op op_add pe_int (pe_call cDr.G hr1 rfl cDr.m cDr.kp cDr.b .nil pass0 (pa_cons (pv 0) (pa_cons pe_int pa_nil)))) pa_nil)))))))), ?_⟩
    have wb : ∀ {x : Int}, Bt 4 x → Bt 72 x := fun h => h.up (by omega)
    have give : ∀ (r : Addr) (n d : Int) (H' : Hp), FeedAt H' a cl → But a H H' → H r = none → PairAt H' r n d → 0 < d → Nat.Coprime n.natAbs d.natAbs → Bt 72 n → Bt 72 d → Q (.ref r) H' := fun r n d H' f b nr hR hd c bn bd => by
      obtain ⟨q, rfl, rfl⟩ := pr_of hd c
      exact kk r q H' f b nr hR ⟨bn, bd⟩
    have pairs : ∀ (r : Addr) (n d : Int) (H' : Hp), FeedAt H' a cl → But a H H' → H r = none → PairAt H' r (RT.top n d) (RT.bot n d) → 0 < d → Bt 72 n → Bt 72 d → Q (.ref r) H' := fun r n d H' f b nr hR hd bn bd => by
      have d0 : d ≠ 0 := by omega
      exact give r _ _ H' f b nr hR (RT.bot_pos d0) (RT.cop d0) (bn.le (RT.top_le d0)) (bd.le (RT.bot_le d0))
    refine ⟨_, rfl, a, cl, 8, rfl, hF, by decide, by decide, fun kd H1 _ _ f1 b1 => ?_⟩
    refine ⟨_, rfl, _, _, rfl, rfl, _, rfl, ?_⟩
    refine ite2 (fun _ => ?_) (fun _ => ?_)
    · refine ⟨(by show 2 ≤ sizeLine; decide), fun r nr => ?_⟩
      exact give r 0 1 _ (f1.same (Same.upd nr)) (b1.trans (Same.but (Same.upd nr))) (b1.free nr f1) upd_same (by decide) (Nat.coprime_one_right _) (bt0 _) (wb bt1)
    refine ⟨_, rfl, _, _, rfl, rfl, _, rfl, ?_⟩
    refine ite2 (fun _ => ?_) (fun _ => ?_)
    · refine ⟨_, rfl, a, cl, 9, rfl, f1, by decide, by decide, fun x H2 x0 x1 f2 b2 => ⟨_, _, rfl, rfl, (by show 2 ≤ sizeLine; decide), fun r nr => ?_⟩⟩
      have b2 := b1.trans b2
      exact give r (x - 4) 1 _ (f2.same (Same.upd nr)) (b2.trans (Same.but (Same.upd nr))) (b2.free nr f2) upd_same (by decide) (Nat.coprime_one_right _) (wb (show (x - 4).natAbs < 2 ^ 4 by omega)) (wb bt1)
    have wd0 : 0 ≤ wd := h0
    have one : (1 : Nat) < 2 ^ 72 := by decide
    refine ⟨fun σ' H' => ∃ o, σ' = [some (.ref a), some (.int wd), some (.int kd), o] ∧ FeedAt H' a cl ∧ But a H H', ?_, ?_⟩
    · refine ⟨_, rfl, rfl, _, rfl, ?_⟩
      refine ite2 (fun _ => ?_) (fun _ => ⟨_, rfl, f1, b1⟩)
      refine ⟨_, rfl, _, _, rfl, rfl, _, rfl, ?_⟩
      refine ite2 (fun _ => ?_) (fun _ => ⟨_, rfl, f1, b1⟩)
      refine ⟨_, rfl, _, rfl, a, cl, wd, rfl, f1, by omega, by omega, fun g H2 g0 g1 f2 b2 => ?_⟩
      have hL : ∀ x : Int, 0 ≤ x → x < 100000 ^ wd.toNat → x.natAbs < 2 ^ 68 := fun x x0 x1 => by
        have h1 : (100000 : Nat) ^ wd.toNat ≤ 100000 ^ 4 := Nat.pow_le_pow_right (by decide) (by omega)
        have e : ((100000 ^ wd.toNat : Nat) : Int) = (100000 : Int) ^ wd.toNat := by rw [Int.natCast_pow]; rfl
        rw [← e] at x1
        have : (100000 : Nat) ^ 4 < 2 ^ 68 := by decide
        omega
      have gB := hL g g0 g1
      have big : (2 : Nat) ^ 68 ≤ 2 ^ 72 := by decide
      have hg72 : Hg g := ⟨72, by decide, show g.natAbs < 2 ^ 72 by omega⟩
      refine ⟨_, rfl, a, cl, 2, rfl, f2, by decide, by decide, fun z H3 z0 z1 f3 b3 => ⟨_, _, rfl, rfl, ⟨⟨72, by decide, show (2 : Int).natAbs < 2 ^ 72 by decide⟩, ⟨72, by decide, show z.natAbs < 2 ^ 72 by omega⟩⟩, _, _, rfl, rfl, _, _, rfl, rfl, ⟨hg72, ⟨72, by decide, show (1 - 2 * z).natAbs < 2 ^ 72 by omega⟩⟩, ?_⟩⟩
      refine ⟨_, rfl, _, rfl, _, rfl, a, cl, wd, rfl, f3, by omega, by omega, fun g' H4 g0' g1' f4 b4 => ⟨_, _, rfl, ?_⟩⟩
      have hz : z = 0 ∨ z = 1 := by omega
      have gB' := hL g' g0' g1'
      have hsm : Bt 72 (g * (1 - 2 * z)) := by
        show (g * (1 - 2 * z)).natAbs < _
        rcases hz with rfl | rfl <;> omega
      have hd : (0 : Int) < (if g' > 1 then g' else 1) ∧ Bt 72 (if g' > 1 then g' else 1 : Int) := by
        refine ⟨by split <;> omega, ?_⟩
        show (if g' > 1 then g' else 1 : Int).natAbs < _
        split <;> omega
      refine ⟨_, _, rfl, by omega, fun r H5 s5 nr hR => ?_⟩
      have b4 := b1.trans (b2.trans (b3.trans b4))
      exact pairs r _ _ H5 (f4.same s5) (b4.trans (Same.but s5)) (b4.free nr f4) hR hd.1 hsm hd.2
    rintro σ' H2 ⟨o, rfl, f2, b2⟩
    refine ⟨_, rfl, a, cl, 19, rfl, f2, by decide, by decide, fun x H3 x0 x1 f3 b3 => ⟨_, _, rfl, rfl, ?_⟩⟩
    refine ⟨_, rfl, a, cl, 6, rfl, f3, by decide, by decide, fun y H4 y0 y1 f4 b4 => ⟨_, _, rfl, rfl, ?_⟩⟩
    have b4 := b2.trans (b3.trans b4)
    have by4 : Bt 4 (1 + y) := show (1 + y).natAbs < 2 ^ 4 by omega
    refine ⟨_, _, rfl, by omega, fun r H5 s5 nr hR => ?_⟩
    exact pairs r _ _ H5 (f4.same s5) (b4.trans (Same.but s5)) (b4.free nr f4) hR (by omega) (show (x - 9).natAbs < 2 ^ 72 by omega) (wb by4)
theorem ok_wo {f fD : Addr} {fd dD : FuncData} (F : Fun K "_law_word" "_law_word" sWord f fd) (T : TxtL mg) (cDr : CalN P w K mg base "_law_draw" 1 ["feed", "limit"] spDraw fD dD) : FnOk P w K mg base CX0 2 f fd ["feed", "letters", "length"] spWo := by
  refine F.ok scWo (fun vs H Q E h => ?_) (fun cdv A outer s H vs Q E hr h => ?_)
  · obtain ⟨a, cl, k, n, rfl, _⟩ := h
    rfl
  · obtain ⟨a, cl, k, n, rfl, hF, k1, k4, n200, kk⟩ := h
    have hr1 : Room 1 _ := hr.mono (by decide)
    refine ⟨_, pss_one (ps_ret (pe_bm PySem.F.plainAttrs_str PySem.F.slot_str_join PySem.F.type_str_join mt_join pe_str (pa_cons (pe_lc (own := [("k", 3)]) (g := gName 3) (tt := tYes) rfl scWo.nd (pi_range1 (by rfl) T.range (pa_cons (pv 2) pa_nil)) (blkOk_by (N := ["feed", "letters", "length", "k"]) (sc := (defScope sWord)) (by decide +kernel)) (fun _ _ _ _ _ => (pg_name (i := 3) scWo.nd rfl (.inl rfl))) (fun _ _ _ _ _ => pts_nil) (fun _ _ _ _ _ => (pe_ix ix_str pe_str (pe_call cDr.G hr1 rfl cDr.m cDr.kp cDr.b .nil pass0 (pa_cons (pv 0) (pa_cons (pv 1) pa_nil))) (fun _ _ => rfl)))) pa_nil))), ?_⟩
    refine ⟨rfl, _, rfl, _, rfl, by omega, by omega, fun D nD => ?_⟩
    obtain ⟨Da, Dc⟩ := hF.ne_new nD
    refine lc_it (walk_range (lo := 0) (n := n)) (fun i H2 => ∃ u : List Nat, u.length = i ∧ Ltk k u ∧ FeedAt H2 a cl ∧ But a H H2 ∧ H2 D = some (.lst (u.map fun x => V.str (ltr x)))) ⟨[], rfl, fun x hx => absurd hx List.not_mem_nil, hF.other Da Dc, Same.but (Same.upd nD), upd_same⟩ (fun _ _ _ _ => trivial) ?_ ?_
    · rintro i x H2 H3 hi ⟨u, ul, hu, f2, b2, hD⟩ ⟨rfl, rfl⟩
      refine ⟨rfl, _, rfl, _, rfl, a, cl, (k : Int), rfl, f2, by omega, by omega, fun r H4 r0 r1 f4 b4 => ?_⟩
      have er : r = ((r.toNat : Nat) : Int) := by omega
      have lt : r.toNat < k := by omega
      refine ⟨_, _, 97 + r.toNat, rfl, rfl, abcd_len, by rw [er, Int.toNat_natCast]; exact abcd_at (by omega), ?_⟩
      refine ⟨_, b4 _ _ hD Da, ?_, u ++ [r.toNat], by rw [List.length_append, ul]; rfl, ?_, f4.other Da Dc, fun b o e n => ?_, ?_⟩
      · rw [List.length_map, ul]
        exact small1000 (by omega)
      · intro x hx
        rcases List.mem_append.mp hx with hx | hx
        · exact hu x hx
        · rw [List.mem_singleton.mp hx]
          exact lt
      · rw [upd_ne (ne_of_none e nD)]
        exact b4 _ _ (b2 _ _ e n) n
      · rw [upd_same, List.map_append]
        rfl
    · rintro H2 ⟨u, ul, hu, f2, b2, hD⟩
      refine ⟨_, D, u.map ltr, rfl, rfl, .inl (SqL.of (by rw [List.map_map]; exact hD)), ?_, ?_⟩
      · have e : ((u.map ltr).map (·.length)).sum = u.length := by
          clear hD hu ul
          induction u with
          | nil => rfl
          | cons x u ih =>
            rw [List.map_cons, List.map_cons, List.sum_cons, ih, List.length_cons]
            show 1 + u.length = _
            omega
        rw [e, List.length_map, ul]
        show n + n * 0 ≤ 16777216
        omega
      · rw [join_wd]
        exact kk u H2 ul hu f2 b2
theorem ok_ln {f fN C : Addr} {fd dN : FuncData} (F : Fun K "_law_line" "_law_line" sLine f fd) (T : TxtL mg) (cNm : CalN P w K mg base "_law_number" 34 ["feed", "wide"] spNm fN dN) : FnOk P w K mg base CX0 35 f fd ["feed", "width", "wide"] (spLn C) := by
  refine F.ok scLi (fun vs H Q E h => ?_) (fun cdv A outer s H vs Q E hr h => ?_)
  · obtain ⟨N, a, cl, n, wd, rfl, _⟩ := h
    rfl
  · obtain ⟨N, a, cl, n, wd, rfl, hF, w0, w1, hn, al, na, kk⟩ := h
    have hr34 : Room 34 _ := hr
    refine ⟨_, pss_one (ps_ret (pe_lc (own := [("k", 3)]) (g := gName 3) (tt := tYes) rfl scLi.nd (pi_range1 (by rfl) T.range (pa_cons (pv 1) pa_nil)) (blkOk_by (N := ["feed", "width", "wide", "k"]) (sc := (defScope sLine)) (by decide +kernel)) (fun _ _ _ _ _ => (pg_name (i := 3) scLi.nd rfl (.inl rfl))) (fun _ _ _ _ _ => pts_nil) (fun _ _ _ _ _ => (pe_call cNm.G hr34 rfl cNm.m cNm.kp cNm.b .nil pass0 (pa_cons (pv 0) (pa_cons (pv 2) pa_nil)))))), ?_⟩
    refine ⟨_, rfl, _, rfl, by omega, by omega, fun D nD => ?_⟩
    obtain ⟨Da, Dc⟩ := hF.ne_new nD
    have sub : ∀ b, K1 a b → N b := fun b z => by rw [z]; exact na
    refine lc_it (walk_range (lo := 0) (n := n)) (fun i G => ∃ u, Bld C (K1 a) N H D (rng i fun j => prD (u j)) G ∧ FeedAt G a cl ∧ ∀ j, NumB (u j)) ⟨fun _ => 0, bld0 nD, hF.other Da Dc, fun _ => numB0⟩ (fun _ _ _ _ => trivial) ?_ ?_
    · rintro i x G1 G2 hi ⟨u, bd, f1, hu⟩ ⟨rfl, rfl⟩
      refine ⟨rfl, _, rfl, _, rfl, a, cl, wd, rfl, f1, w0, w1, fun r q G3 f3 b3 nr hq bq => ?_⟩
      have k3 := keep_feed b3 f3
      have hat : At C (And1 N D) G3 (.ref r) (prD q) := at_pair hq ((bd.alc al).fresh nr)
      obtain ⟨acc, h1, h2, h3⟩ := bd.step nD k3 sub Da hat
      refine ⟨acc, h1, by rw [h2, rng_len]; exact small1000 (by omega), ext u i q, ?_, f3.other Da Dc, fun j => ?_⟩
      · rw [rng_succ, rng_ext (f := fun j => prD (ext u i q j)) (g := fun j => prD (u j)) fun j hj => by rw [ext_lt u q hj]]
        show Bld C (K1 a) N H D (_ ++ [prD (ext u i q i)]) _
        rw [ext_same]
        exact h3
      · by_cases e : j = i
        · rw [e, ext_same]; exact bq
        · show NumB (if j = i then q else u j)
          rw [if_neg e]; exact hu j
    · rintro G1 ⟨u, bd, f1, hu⟩
      exact kk D u G1 f1 bd.k.to nD (bd.done (al.fresh nD)) hu
theorem ok_dn {f fD fL C : Addr} {fd dD dL : FuncData} (F : Fun K "_law_drawn" "_law_drawn" sDrawn f fd) (T : TxtL mg) (cDr : CalN P w K mg base "_law_draw" 1 ["feed", "limit"] spDraw fD dD) (cLn : CalN P w K mg base "_law_line" 35 ["feed", "width", "wide"] (spLn C) fL dL) :
    FnOk P w K mg base CX0 36 f fd ["feed"] (spDn C) := by
  refine F.ok scDn (fun vs H Q E h => ?_) (fun cdv A outer s H vs Q E hr h => ?_)
  · obtain ⟨N, a, cl, rfl, _⟩ := h
    rfl
  · obtain ⟨N, a, cl, rfl, hF, al, na, kk⟩ := h
    have hr1 : Room 1 _ := hr.mono (by decide)
    have hr35 : Room 35 _ := hr
    have sub : ∀ b, K1 a b → N b := fun b z => by rw [z]; exact na
    refine ⟨_, pss_cons (ps_set (i := 1) scDn.nd rfl (.inl rfl) (pe_op op_add pe_int (pe_call cDr.G hr1 rfl cDr.m cDr.kp cDr.b .nil pass0 (pa_cons (pv 0) (pa_cons pe_int pa_nil)))))
      (pss_cons (ps_set (i := 2) scDn.nd rfl (.inr rfl) (pe_call cDr.G hr1 rfl cDr.m cDr.kp cDr.b .nil pass0 (pa_cons (pv 0) (pa_cons pe_int pa_nil))))
      (pss_cons (ps_set (i := 3) scDn.nd rfl (.inr rfl) (pe_op RQ.op_mulH pe_int (pe_callTy call_int1 (by rfl) T.int (by decide +kernel) (pa_cons (pe_cmpR op_eq (pe_call cDr.G hr1 rfl cDr.m cDr.kp cDr.b .nil pass0 (pa_cons (pv 0) (pa_cons pe_int pa_nil))) pe_int (nomark _)) pa_nil))))
      (pss_cons (ps_set (i := 4) scDn.nd rfl (.inl rfl) (pe_lst pa_nil))
      (pss_cons (ps_for PassesOwn.never rfl (pi_range1 (by rfl) T.range (pa_cons (pv 1) pa_nil)) (pg_name (i := 5) scDn.nd rfl (.inl rfl))
        (pss_one (ps_expr (pe_bm PySem.F.plainAttrs_list PySem.F.slot_list_append PySem.F.type_list_append mt_append (pv 4) (pa_cons (pe_lc (own := [("place", 6)]) (g := gName 6) (tt := tYes) rfl scDn.nd (pi_range1 (by rfl) T.range (pa_cons (pv 2) pa_nil)) (blkOk_by (N := ["feed", "letters", "size", "wide", "steps", "k", "place"]) (sc := (defScope sDrawn)) (by decide +kernel)) (fun _ _ _ _ _ => (pg_name (i := 6) scDn.nd rfl (.inl rfl))) (fun _ _ _ _ _ => pts_nil) (fun _ _ _ _ _ => (pe_call cLn.G hr35 rfl cLn.m cLn.kp cLn.b .nil pass0 (pa_cons (pv 0) (pa_cons (pv 2) (pa_cons (pv 3) pa_nil)))))) pa_nil)))))
      (pss_one (ps_ret (pe_lst (pa_cons (pe_call cLn.G hr35 rfl cLn.m cLn.kp cLn.b .nil pass0 (pa_cons (pv 0) (pa_cons (pv 2) (pa_cons (pv 3) pa_nil)))) (pa_cons (pv 4) (pa_cons (pe_call cLn.G hr35 rfl cLn.m cLn.kp cLn.b .nil pass0 (pa_cons (pv 0) (pa_cons (pv 2) (pa_cons (pv 3) pa_nil)))) pa_nil)))))))))), ?_⟩
    refine ⟨_, rfl, a, cl, 4, rfl, hF, by decide, by decide, fun dl H1 l0 l1 f1 b1 => ⟨_, _, rfl, rfl, ?_⟩⟩
    obtain ⟨k, ek⟩ : ∃ k : Nat, (1 : Int) + dl = (k : Int) := ⟨(1 + dl).toNat, by omega⟩
    show gName 1 (V.int (1 + dl)) _ _ _
    rw [ek]
    refine ⟨_, rfl, a, cl, 5, rfl, f1, by decide, by decide, fun dn H2 n0 n1 f2 b2 => ?_⟩
    obtain ⟨n, rfl⟩ : ∃ n : Nat, dn = (n : Int) := ⟨dn.toNat, by omega⟩
    refine ⟨_, rfl, a, cl, 3, rfl, f2, by decide, by decide, fun d3 H3 _ _ f3 b3 => ?_⟩
    refine ⟨rfl, .inr ⟨_, rfl, _, _, rfl, rfl, ⟨⟨3, by decide, show (4 : Int).natAbs < 2 ^ 3 by decide⟩, ⟨3, by decide, ?_⟩⟩, ?_⟩⟩
    · show (if decide (V.int d3 = V.int 0) = true then (1 : Int) else 0).natAbs < 2 ^ 3
      split <;> decide
    obtain ⟨wd0, ewd, w0, w1⟩ : ∃ wd0 : Int, 4 * (if decide (V.int d3 = V.int 0) = true then (1 : Int) else 0) = wd0 ∧ 0 ≤ wd0 ∧ wd0 ≤ 4 := by
      refine ⟨_, rfl, ?_, ?_⟩ <;> (split <;> decide)
    show gName 3 (V.int (4 * (if decide (V.int d3 = V.int 0) = true then (1 : Int) else 0))) _ _ _
    rw [ewd]
    have b13 := b1.trans (b2.trans b3)
    have kf3 := keep_feed b13 f3
    have al3 := al.keep (kf3.more sub)
    refine ⟨(by show 0 ≤ sizeLine; decide), fun D nD => ?_⟩
    obtain ⟨Da, Dc⟩ := f3.ne_new nD
    have nND := al3.fresh nD
    refine ⟨_, rfl, _, rfl, by omega, by omega, for_range (n := k) (fun i σ G => ∃ (T : Nat → Nat → Nat → Rat) (o5 : Option V), σ = [some (.ref a), some (.int (k : Int)), some (.int (n : Int)), some (.int wd0), some (.ref D), o5, none] ∧ Bld C (K1 a) N H3 D (rng i fun x => prT n n (T x)) G ∧ FeedAt G a cl ∧ ∀ x i j, NumB (T x i j))
      ⟨fun _ _ _ => 0, none, rfl, bld0 nD, f3.other Da Dc, fun _ _ _ => numB0⟩ ?_ ?_⟩
    · rintro i σ G hi ⟨T, o5, rfl, bd, fG, hT⟩
      have alG := bd.alc al3
      obtain ⟨acc0, hacc0, _⟩ := bd.xs
      refine ⟨_, rfl, .inl ⟨rfl, _, SqL.of hacc0⟩, _, rfl, _, rfl, by omega, by omega, fun L nL => ?_⟩
      obtain ⟨La, Lc⟩ := fG.ne_new nL
      have nNL := alG.fresh nL
      have sub1 : ∀ b, K1 a b → And1 N D b := fun b z => .inl (sub b z)
      refine lc_it (walk_range (lo := 0) (n := n)) (fun j G' => ∃ U : Nat → Nat → Rat, Bld C (K1 a) (And1 N D) G L (rng j fun j => prL n (U j)) G' ∧ FeedAt G' a cl ∧ ∀ i j, NumB (U i j)) ⟨fun _ _ => 0, bld0 nL, fG.other La Lc, fun _ _ => numB0⟩ (fun _ _ _ _ => trivial) ?_ ?_
      · rintro j x G1 G2 hj ⟨U, b2', f2', hU⟩ ⟨rfl, rfl⟩
        refine ⟨rfl, _, rfl, _, rfl, _, rfl, And1 (And1 N D) L, a, cl, n, wd0, rfl, f2', w0, w1, by omega, b2'.alc alG, .inl (.inl na), fun r u G3 f3' b3' nr hu bu => ?_⟩
        obtain ⟨acc, h1, h2, h3⟩ := b2'.step nL (keep_feed b3' f3') sub1 La hu
        refine ⟨acc, h1, by rw [h2, rng_len]; exact small1000 (by omega), ext U j u, ?_, f3'.other La Lc, fun i' j' => ?_⟩
        · rw [rng_succ, rng_ext (f := fun j' => prL n (ext U j u j')) (g := fun j' => prL n (U j')) fun j' hj' => by rw [ext_lt U u hj']]
          show Bld C (K1 a) (And1 N D) G L (_ ++ [prL n (ext U j u j)]) _
          rw [ext_same]
          exact h3
        · by_cases e : i' = j
          · rw [e, ext_same]; exact bu j'
          · show NumB ((if i' = j then u else U i') j')
            rw [if_neg e]; exact hU i' j'
      · rintro G1 ⟨U, b2', f2', hU⟩
        obtain ⟨acc, h1, h2, h3⟩ := bd.step nD b2'.k sub Da (b2'.done nNL)
        refine ⟨D, acc, _, rfl, rfl, h1, by rw [h2, rng_len]; exact small1000 (by omega), ext T i U, _, rfl, ?_, f2'.other Da Dc, fun x i' j' => ?_⟩
        · rw [rng_succ, rng_ext (f := fun x => prT n n (ext T i U x)) (g := fun x => prT n n (T x)) fun x hx => by rw [ext_lt T U hx]]
          show Bld C (K1 a) N H3 D (_ ++ [prT n n (ext T i U i)]) _
          rw [ext_same]
          exact h3
        · by_cases e : x = i
          · rw [e, ext_same]; exact hU i' j'
          · show NumB ((if x = i then U else T x) i' j')
            rw [if_neg e]; exact hT x i' j'
    · rintro σ G ⟨T, o5, rfl, bd, fG, hT⟩
      have hT0 := bd.done nND
      have alG := al3.keep (bd.k.more sub)
      refine ⟨_, rfl, _, rfl, _, rfl, N, a, cl, n, wd0, rfl, fG, w0, w1, by omega, alG, na, fun rs us G1 f4 b4 nrs hs bs => ?_⟩
      have kf4 := keep_feed b4 f4
      have al4 := alG.keep (kf4.more sub)
      refine ⟨_, rfl, _, rfl, _, rfl, _, rfl, N, a, cl, n, wd0, rfl, f4, w0, w1, by omega, al4, na, fun re ue G2 f5 b5 nre he be => ?_⟩
      have kf5 := keep_feed b5 f5
      refine ⟨(by show 3 ≤ sizeLine; decide), fun r nr => ?_⟩
      have kall := ((kf3.trans bd.k).trans kf4).trans kf5
      have res := At.newL (C := C) (N := N) (xs := [.ref rs, .ref D, .ref re]) (ds := [prL n us, .lst (rng k fun x => prT n n (T x)), prL n ue]) (al4.keep (kf5.more sub)) nr rfl (itemsC (hs.keep (kf5.more sub)) (itemsC ((hT0.keep (kf4.more sub)).keep (kf5.more sub)) (items1 he)))
      have s4 := Same.upd (o := .lst [.ref rs, .ref D, .ref re]) nr
      exact kk r ⟨k, n, us, T, ue⟩ _ (f5.same s4) (kall.to.trans (Same.but s4)) (kall.free nr) res ⟨(by show 1 ≤ k; omega), (by show k ≤ 4; omega), (by show n ≤ 4; omega), bs, be, hT⟩
end
end RX

set_option Elab.async false
set_option maxRecDepth 100000
namespace RX
open PySem L2 LX VA
open RQ (Hg Bt)
abbrev sRow : Stmt := inClass (topS 34) 4
theorem scRow : FnScope ["self", "word", "tops", "bottom"] ["self", "word"] (defScope sRow) := ⟨rfl, rfl, rfl, by decide +kernel, rfl, by decide +kernel, by decide +kernel⟩
abbrev sCol : Stmt := inClass (topS 34) 5
theorem scCol : FnScope ["self", "word", "tops", "bottom", "steps", "letter"] ["self", "word"] (defScope sCol) := ⟨rfl, rfl, rfl, by decide +kernel, rfl, by decide +kernel, by decide +kernel⟩
abbrev sTab : Stmt := inClass (topS 34) 6
theorem scTab : FnScope ["self", "word", "places", "lines", "bottom", "letter", "rows", "below", "at", "line", "place"] ["self", "word"] (defScope sTab) := ⟨rfl, rfl, rfl, by decide +kernel, rfl, by decide +kernel, by decide +kernel⟩
abbrev outTab0 : Scope := { kind := .function, names := [(".0", .local), ("at", .cell), ("places", .cell)], isGenerator := false, isCoroutine := false }
theorem walk_back {z : Str} : Walk (RS.Itb z) z.length (fun _ => True) (fun i H v H' => H' = H ∧ ∃ c, z.cps[z.length - 1 - i]? = some c ∧ v = .str ⟨#[c]⟩) :=
  ⟨fun _ _ hi _ => hi, fun _ _ => Nat.le_refl _, fun _ _ _ _ _ _ y => y⟩
def spRow (C CM : Addr) : Sp := fun vs H Q _ => ∃ (N : Addr → Prop) (p ab : Addr) (m : Mc) (u : List Nat) (b t : Nat), vs = [.ref p, .str (wd u)] ∧ MachAt C CM N H p ab m ∧ Alc N H ∧ Ltk m.k u ∧ u.length ≤ 400 ∧ Msz m b t ∧
  ∀ (r : Addr) (H' : Hp), But ab H H' → H r = none → MachAt C CM N H' p ab m → At C N H' (.ref r) (ratR m.n (rowN m u)) → Q (.ref r) H'
def colN (m : Mc) (u : List Nat) : Nat → Rat := VN.col m.n m.t m.e u
def tabN (m : Mc) (u : List Nat) : Nat → Nat → Rat := VN.tab m.n m.t u
def spCol (C CM : Addr) : Sp := fun vs H Q _ => ∃ (N : Addr → Prop) (p ab : Addr) (m : Mc) (u : List Nat) (b t : Nat), vs = [.ref p, .str (wd u)] ∧ MachAt C CM N H p ab m ∧ Alc N H ∧ Ltk m.k u ∧ u.length ≤ 400 ∧ Msz m b t ∧
  ∀ (r : Addr) (H' : Hp), But ab H H' → H r = none → MachAt C CM N H' p ab m → At C N H' (.ref r) (ratR m.n (colN m u)) → Q (.ref r) H'
def spTab (C CM : Addr) : Sp := fun vs H Q _ => ∃ (N : Addr → Prop) (p ab : Addr) (m : Mc) (u : List Nat) (b t : Nat), vs = [.ref p, .str (wd u)] ∧ MachAt C CM N H p ab m ∧ Alc N H ∧ Ltk m.k u ∧ u.length ≤ 400 ∧ Msz m b t ∧
  ∀ (r : Addr) (H' : Hp), But ab H H' → H r = none → MachAt C CM N H' p ab m → At C N H' (.ref r) (ratT m.n m.n (tabN m u)) → Q (.ref r) H'
section
variable {P : Program} {w : World} {K : PySem.W.Frag} {mg : Str → Option Value} {base : Heap}
theorem ok_row {f fR fT C CM : Addr} {fd dR dT : FuncData} (F : Fun K "row" "Machine.row" sRow f fd) (TM : TxtM K mg CM)
    (cRw : MetN P w K mg base CM "_row_above" 36 ["self", "word"] (spRwa C CM) fR dR) (cRt : CalN P w K mg base "ratios" 35 ["tops", "bottom"] (spRts C) fT dT) :
    FnOk P w K mg base CX0 37 f fd ["self", "word"] (spRow C CM) := by
  refine F.ok scRow (fun vs H Q E h => ?_) (fun cdv A outer s H vs Q E hr h => ?_)
  · obtain ⟨N, p, ab, m, u, b, t, rfl, _⟩ := h
    rfl
  · obtain ⟨N, p, ab, m, u, b, t, rfl, hm, al, hu, lu, sz, k⟩ := h
    have hr35 : Room 35 _ := hr.mono (by decide)
    have hr36 : Room 36 _ := hr
    have n1 := hm.n1
    have na := hm.na
    obtain ⟨dx, vS, vT, vE, hp, hS, hT, hE⟩ := hm.ex
    refine ⟨_, pss_cons (ps_asg (pe_meth (pv 0) TM.cl cRw.m cRw.G hr36 cRw.b .nil pass0 (pa_cons (pv 1) pa_nil)) (pg_tup rfl (pgs_cons (pg_name (i := 2) scRow.nd rfl (.inl rfl)) (pgs_cons (pg_name (i := 3) scRow.nd rfl (.inl rfl)) pgs_nil))))
      (pss_one (ps_ret (pe_call cRt.G hr35 rfl cRt.m cRt.kp cRt.b .nil pass0 (pa_cons (pv 2) (pa_cons (pv 3) pa_nil))))), ?_⟩
    refine ⟨_, rfl, p, dx, _, rfl, hp, mf_no (by decide +kernel) (by decide +kernel) (by decide +kernel) (by decide +kernel) (by decide +kernel), _, rfl, N, p, ab, m, u, b, t, rfl, hm, al, hu, lu, sz, fun v z B H1 b1' hm1 hv av => ?_⟩
    have kp1 : Keep N H H1 := Keep.but b1' na hm1.there
    obtain ⟨r, rfl⟩ := hv.tupV
    obtain ⟨xs, hx, lx, ex⟩ := hv.tupE
    match xs, lx with
    | [w0, w1], _ =>
    have h0 := ex 0 w0 _ rfl rfl
    have h1 := (ex 1 w1 _ rfl rfl).intV
    subst h1
    obtain ⟨tq, rfl⟩ := h0.lstV
    refine ⟨r, _, rfl, SqT.of hx, rfl, _, _, rfl, _, _, rfl, rfl, ?_⟩
    refine ⟨_, rfl, _, rfl, N, tq, m.n, z, B, rowN m u, rfl, h0, al.keep kp1, n1, av.b0, av.eq, fun r2 H2 s2 nr2 hr2 => ?_⟩
    exact k r2 H2 (b1'.trans (Same.but s2)) (kp1.free nr2) (hm1.same s2) hr2
theorem ok_col {f fC fA fS fW fT fH C CM : Addr} {fd dC dA dS dW dT dH : FuncData} (F : Fun K "column" "Machine.column" sCol f fd) (TM : TxtM K mg CM) (mrev : mg "reversed" = none) (cCw : CalN P w K mg base "check_word" 2 ["letters", "word"] spCw fC dC)
    (cRa : CalN P w K mg base "row_above" 34 ["row"] (spRa C) fA dA) (cSt : MetN P w K mg base CM "_step_above" 35 ["self", "letter"] (spSta C CM) fS dS) (cWc : CalN P w K mg base "whole_column_times" 2 ["column", "square"] (spLead C stC) fW dW)
    (cRth : CalN P w K mg base "row_through" 34 ["tops", "bottom", "steps", "lead"] (spRth C stC fW) fH dH) (cRt : CalN P w K mg base "ratios" 35 ["tops", "bottom"] (spRts C) fT dT) : FnOk P w K mg base CX0 36 f fd ["self", "word"] (spCol C CM) := by
  refine F.ok scCol (fun vs H Q E h => ?_) (fun cdv A outer s H vs Q E hr h => ?_)
  · obtain ⟨N, p, ab, m, u, b, t, rfl, _⟩ := h
    rfl
  · obtain ⟨N, p, ab, m, u, b, t, rfl, hm, al, hu, lu, sz, k⟩ := h
    have hr2 : Room 2 _ := hr.mono (by decide)
    have hr34 : Room 34 _ := hr.mono (by decide)
    have hr35 : Room 35 _ := hr
    have k1 := hm.k1
    have k4 := hm.k4
    have n1 := hm.n1
    have na := hm.na
    have b1 := sz.b1
    have t1 := sz.t1
    have wl : (wd u).length = u.length := wd_len
    obtain ⟨dx, vS, vT, vE, hp, hS, hT, hE⟩ := hm.ex
    obtain ⟨qe, rfl⟩ := hE.tupV
    refine ⟨_, pss_cons (ps_expr (pe_call cCw.G hr2 rfl cCw.m cCw.kp cCw.b .nil pass0 (pa_cons (pe_fld (pv 0) rfl) (pa_cons (pv 1) pa_nil))))
      (pss_cons (ps_asg (pe_call cRa.G hr34 rfl cRa.m cRa.kp cRa.b .nil pass0 (pa_cons (pe_fld (pv 0) rfl) pa_nil)) (pg_tup rfl (pgs_cons (pg_name (i := 2) scCol.nd rfl (.inl rfl)) (pgs_cons (pg_name (i := 3) scCol.nd rfl (.inl rfl)) pgs_nil))))
      (pss_cons (ps_setLc (i := 4) (own := [("letter", 5)]) (g := gName 5) (tt := tYes) rfl scCol.nd rfl rfl (sw_true rfl rfl rfl (by decide +kernel)) (RS.pi_back (by rfl) mrev (pa_cons (pv 1) pa_nil)) (blkOk_by (N := ["self", "word", "tops", "bottom", "steps", "letter"]) (sc := (defScope sCol)) (by decide +kernel)) (fun _ _ _ _ _ => (pg_name (i := 5) scCol.nd rfl (.inl rfl))) (fun _ _ _ _ _ => pts_nil) (fun _ _ _ _ _ => (pe_meth (pv 0) TM.cl cSt.m cSt.G hr35 cSt.b .nil pass0 (pa_cons (pv 5) pa_nil))))
      (pss_cons (ps_asg (pe_call cRth.G hr34 rfl cRth.m cRth.kp cRth.b .nil pass0 (pa_cons (pv 2) (pa_cons (pv 3) (pa_cons (pv 4) (pa_cons (pe_glob (v := .ref _) (by rfl) cWc.m rfl) pa_nil))))) (pg_tup rfl (pgs_cons (pg_name (i := 2) scCol.nd rfl (.inl rfl)) (pgs_cons (pg_name (i := 3) scCol.nd rfl (.inl rfl)) pgs_nil))))
      (pss_one (ps_ret (pe_call cRt.G hr35 rfl cRt.m cRt.kp cRt.b .nil pass0 (pa_cons (pv 2) (pa_cons (pv 3) pa_nil)))))))), ?_⟩
    refine ⟨_, rfl, p, CM, dx, _, _, rfl, hp, TM.cl, TM.nL, mf_l, _, rfl, m.k, u, rfl, k1, k4, hu, ?_⟩
    refine ⟨_, rfl, p, CM, dx, _, _, rfl, hp, TM.cl, TM.nE, mf_e, N, qe, m.n, b, t, m.e, rfl, hE, al, n1, sz.sE, b1, by omega, fun r H1 s1 nr hr0 => ?_⟩
    obtain ⟨xs, hx, lx, ex⟩ := hr0.tupE
    match xs, lx with
    | [v0, v1], _ =>
    have h0 := ex 0 v0 _ rfl rfl
    have h1 := (ex 1 v1 _ rfl rfl).intV
    subst h1
    obtain ⟨q, rfl⟩ := h0.lstV
    refine ⟨r, _, rfl, SqT.of hx, rfl, _, _, rfl, _, _, rfl, rfl, ?_⟩
    have hm1 := hm.same s1
    have al1 := al.keep (Same.keep (N := N) s1)
    refine ⟨_, rfl, _, rfl, by rw [wl]; exact Nat.le_of_lt (small1000 (by omega)), fun D nD => ?_⟩
    have nND := al1.fresh nD
    have ne : ab ≠ D := fun e => nND (by rw [← e]; exact na)
    refine lc_it (walk_back (z := wd u)) (fun i G => Gath C CM N H1 D p ab m (rng i fun i => absD m (u.getD (u.length - 1 - i) 0)) G) (gath0 hm1 nD) (fun _ _ _ _ => trivial) ?_ ?_
    · rintro i x G1 G2 hi g ⟨rfl, c, hc, rfl⟩
      rw [wl] at hi hc
      have il : u.length - 1 - i < u.length := by omega
      rw [wd_at, List.getElem?_eq_getElem il] at hc
      obtain rfl := Option.some.inj hc
      have xk : u[u.length - 1 - i] < m.k := hu _ (List.getElem_mem il)
      have ed : u.getD (u.length - 1 - i) 0 = u[u.length - 1 - i] := by rw [List.getD_eq_getElem?_getD, List.getElem?_eq_getElem il]; rfl
      obtain ⟨dx2, vS2, vT2, vE2, hp2, _, _, _⟩ := g.m.ex
      refine ⟨rfl, _, rfl, p, dx2, _, rfl, hp2, mf_no (by decide +kernel) (by decide +kernel) (by decide +kernel) (by decide +kernel) (by decide +kernel), _, rfl, And1 N D, p, ab, m, u[u.length - 1 - i], b, t, rfl, g.m, g.b.alc al1, xk, sz.sT _ xk, b1, t1, fun v H4 b4 hm4 hv => ?_⟩
      obtain ⟨acc, h1, h2, h3⟩ := g.step nD na ne b4 hm4 hv
      refine ⟨acc, h1, by rw [h2, rng_len]; exact small1000 (by omega), ?_⟩
      rw [rng_succ, ed]
      exact h3
    · rintro G1 g
      rw [wl] at g
      have bG : But ab H1 G1 := Keep.toBut g.b.k
      have kG : Keep N H1 G1 := g.b.k.more fun b e => by rw [e]; exact na
      have mG : MachAt C CM N G1 p ab m := g.m.less (fun _ z => .inl z) na
      have bz : t + u.length * (t + m.n) ≤ 60000000 := by
        have : u.length * (t + m.n) ≤ 400 * (100000 + 1000) := Nat.mul_le_mul lu (by omega)
        omega
      have bb : b + u.length * b ≤ 60000000 := by
        have : u.length * b ≤ 400 * 12999 := Nat.mul_le_mul lu b1
        omega
      have lt : ∀ i, i < u.length → u.getD (u.length - 1 - i) 0 < m.k := fun i hi => by
        rw [List.getD_eq_getElem?_getD, List.getElem?_eq_getElem (show u.length - 1 - i < u.length by omega)]
        exact hu _ (List.getElem_mem _)
      have base0 : Abv m.n (colN m (u.drop (u.length - 0))) (topz m.e ((cb m.e m.n : Nat) : Int)) ((cb m.e m.n : Nat) : Int) b t := by
        rw [Nat.sub_zero, List.drop_length]
        exact abv_row sz.sE
      refine ⟨_, rfl, _, rfl, _, rfl, N, q, D, m.n, u.length, b, t, b, t, _, _, fun i => m.t (u.getD (u.length - 1 - i) 0), fun i => colN m (u.drop (u.length - i)), rfl, h0.keep kG, g.b.done nND, al1.keep kG, n1, bb, bz, by omega, by omega, base0, fun i hi => sz.sT _ (lt i hi), fun i hi z B b' t' av => ?_, fun v z B H5 s5 hv av => ?_⟩
      · have il : u.length - 1 - i < u.length := by omega
        have e : u.drop (u.length - (i + 1)) = u.getD (u.length - 1 - i) 0 :: u.drop (u.length - i) := by
          have e1 : u.length - (i + 1) = u.length - 1 - i := by omega
          have e2 : u.length - i = u.length - 1 - i + 1 := by omega
          rw [e1, e2, List.drop_eq_getElem_cons il, List.getD_eq_getElem?_getD, List.getElem?_eq_getElem il]
          rfl
        have er : colN m (u.drop (u.length - (i + 1))) = fun l => VM.dot (m.t (u.getD (u.length - 1 - i) 0) l) (colN m (u.drop (u.length - i))) m.n := by
          unfold colN
          rw [e]
          rfl
        show Abv m.n (colN m (u.drop (u.length - (i + 1)))) _ _ _ _
        rw [er]
        exact (abv_col av (sz.sT _ (lt i hi))).up (Nat.le_refl _) (by omega)
      · simp only [Nat.sub_self, List.drop_zero] at av
        obtain ⟨rv, rfl⟩ := hv.tupV
        obtain ⟨ys, hys, ly, ey⟩ := hv.tupE
        match ys, ly with
        | [w0, w1], _ =>
        have g0 := ey 0 w0 _ rfl rfl
        have g1 := (ey 1 w1 _ rfl rfl).intV
        subst g1
        obtain ⟨tq, rfl⟩ := g0.lstV
        have al5 := (al1.keep kG).keep (Same.keep (N := N) s5)
        refine ⟨rv, _, rfl, SqT.of hys, rfl, _, _, rfl, _, _, rfl, rfl, ?_⟩
        refine ⟨_, rfl, _, rfl, N, tq, m.n, z, B, colN m u, rfl, g0, al5, n1, av.b0, av.eq, fun r2 H6 s6 nr2 hr2 => ?_⟩
        have b6 : But ab H H6 := (((Same.but s1).trans bG).trans (Same.but s5)).trans (Same.but s6)
        refine k r2 H6 b6 ?_ (mG.same (s5.trans s6)) hr2
        have k5 : Keep N H1 _ := kG.trans (Same.keep s5)
        exact s1.free (k5.free nr2)
theorem tab_snoc {n : Nat} {t : Nat → Nat → Nat → Rat} {u : List Nat} {x a : Nat} : VN.tab n t (u ++ [x]) a = fun j => VM.dot (VN.tab n t u a) (fun i => t x i j) n := row_snoc
theorem ok_tab {f fC fG fS fW fT qG C CM : Addr} {fd dC dG dS dW dT : FuncData} (F : Fun K "table" "Machine.table" sTab f fd) (T : TxtL mg) (TP : TxtP mg) (TM : TxtM K mg CM) (cCw : CalN P w K mg base "check_word" 2 ["letters", "word"] spCw fC dC)
    (cSi : PropN P w K mg base CM "size" 1 (spSi C CM) qG fG dG) (cSt : MetN P w K mg base CM "_step_above" 35 ["self", "letter"] (spSta C CM) fS dS) (cWr : CalN P w K mg base "whole_row_times" 1 ["row", "square"] (spWr C) fW dW)
    (cRt : CalN P w K mg base "ratios" 35 ["tops", "bottom"] (spRts C) fT dT) : FnOk P w K mg base CX0 36 f fd ["self", "word"] (spTab C CM) := by
  refine F.ok scTab (fun vs H Q E h => ?_) (fun cdv A outer s H vs Q E hr h => ?_)
  · obtain ⟨N, p, ab, m, u, b, t, rfl, _⟩ := h
    rfl
  · obtain ⟨N, p, ab, m, u, b, t, rfl, hm, al, hu, lu, sz, k⟩ := h
    have hr1 : Room 1 _ := hr.mono (by decide)
    have hr2 : Room 2 _ := hr.mono (by decide)
    have hr35 : Room 35 _ := hr
    have k1 := hm.k1
    have k4 := hm.k4
    have n1 := hm.n1
    have na := hm.na
    have b1 := sz.b1
    have t1 := sz.t1
    have wl : (wd u).cps.size = u.length := wd_len
    obtain ⟨dx, vS, vT, vE, hp, hS, hT, hE⟩ := hm.ex
    refine ⟨_, pss_cons (ps_expr (pe_call cCw.G hr2 rfl cCw.m cCw.kp cCw.b .nil pass0 (pa_cons (pe_fld (pv 0) rfl) (pa_cons (pv 1) pa_nil))))
      (pss_cons (ps_set (i := 2) scTab.nd rfl (.inr rfl) (pe_callTy (T := "range") XC.cr_range1 (by rfl) T.range (by decide +kernel) (pa_cons (pe_prop (pv 0) TM.cl cSi.p cSi.G hr2 cSi.b .nil pass0 rfl) pa_nil)))
      (pss_cons (ps_asg (pe_tup (pa_cons (pe_lc (own := [("at", 8)]) (g := gName 8) (tt := tYes) rfl scTab.nd (XC.pi_rng (pv 2)) (blkOk_by (N := ["self", "word", "places", "lines", "bottom", "letter", "rows", "below", "at", "line", "place"]) (sc := (defScope sTab)) (by decide +kernel)) (fun _ _ _ _ _ => (pg_name (i := 8) scTab.nd rfl (.inr rfl))) (fun _ _ _ _ _ => pts_nil) (fun _ _ _ _ _ => (pe_lc (own := [("place", 10)]) (g := gName 10) (tt := tYes) rfl scTab.nd (XC.pi_rng (pv 2)) (blkOk_by (N := ["self", "word", "places", "lines", "bottom", "letter", "rows", "below", "at", "line", "place"]) (sc := outTab0) (by decide +kernel)) (fun _ _ _ _ _ => (pg_name (i := 10) scTab.nd rfl (.inl rfl))) (fun _ _ _ _ _ => pts_nil) (fun _ _ _ _ _ => (pe_callTy call_int1 (by rfl) T.int (by decide +kernel) (pa_cons (pe_cmpR op_eq (pv 8) (pv 10) (nomark _)) pa_nil)))))) (pa_cons pe_int pa_nil))) (pg_tup rfl (pgs_cons (pg_name (i := 3) scTab.nd rfl (.inl rfl)) (pgs_cons (pg_name (i := 4) scTab.nd rfl (.inr rfl)) pgs_nil))))
      (pss_cons (ps_for PassesOwn.never rfl (pi_str (pv 1)) (pg_name (i := 5) scTab.nd rfl (.inl rfl))
        (pss_cons (ps_asg (pe_meth (pv 0) TM.cl cSt.m cSt.G hr35 cSt.b .nil pass0 (pa_cons (pv 5) pa_nil)) (pg_tup rfl (pgs_cons (pg_name (i := 6) scTab.nd rfl (.inr rfl)) (pgs_cons (pg_name (i := 7) scTab.nd rfl (.inl rfl)) pgs_nil))))
        (pss_cons (ps_setLc (i := 3) (own := [("line", 9)]) (g := gName 9) (tt := tYes) rfl scTab.nd rfl rfl (sw_true rfl rfl rfl (by decide +kernel)) (pi_list (pv 3)) (blkOk_by (N := ["self", "word", "places", "lines", "bottom", "letter", "rows", "below", "at", "line", "place"]) (sc := (defScope sTab)) (by decide +kernel)) (fun _ _ _ _ _ => (pg_name (i := 9) scTab.nd rfl (.inl rfl))) (fun _ _ _ _ _ => pts_nil) (fun _ _ _ _ _ => (pe_call cWr.G hr1 rfl cWr.m cWr.kp cWr.b .nil pass0 (pa_cons (pv 9) (pa_cons (pv 6) pa_nil)))))
        (pss_one (ps_set (i := 4) scTab.nd rfl (.inr rfl) (pe_op RQ.op_mulH (pv 4) (pv 7)))))))
      (pss_one (ps_ret (pe_callTy (T := "tuple") call_tuple_of (by rfl) TP.tup (by decide +kernel) (pa_cons (pe_lc (own := [("line", 9)]) (g := gName 9) (tt := tYes) rfl scTab.nd (pi_list (pv 3)) (blkOk_by (N := ["self", "word", "places", "lines", "bottom", "letter", "rows", "below", "at", "line", "place"]) (sc := (defScope sTab)) (by decide +kernel)) (fun _ _ _ _ _ => (pg_name (i := 9) scTab.nd rfl (.inl rfl))) (fun _ _ _ _ _ => pts_nil) (fun _ _ _ _ _ => (pe_call cRt.G hr35 rfl cRt.m cRt.kp cRt.b .nil pass0 (pa_cons (pv 9) (pa_cons (pv 4) pa_nil))))) pa_nil))))))), ?_⟩
    refine ⟨_, rfl, p, CM, dx, _, _, rfl, hp, TM.cl, TM.nL, mf_l, _, rfl, m.k, u, rfl, k1, k4, hu, ?_⟩
    refine ⟨_, rfl, p, dx, _, rfl, hp, N, p, ab, m, rfl, hm, _, rfl, fun R nR => ?_⟩
    have s1 : Same H (upd H R (.rng 0 (m.n : Int))) := Same.upd nR
    have hR : (upd H R (.rng 0 (m.n : Int))) R = some (.rng 0 (m.n : Int)) := upd_same
    generalize upd H R (.rng 0 (m.n : Int)) = H1 at *
    have al1 := al.keep (Same.keep (N := N) s1)
    have nn : ((m.n : Int) - 0).toNat = m.n := by omega
    -- the unit table
    refine ⟨_, rfl, R, 0, (m.n : Int), rfl, hR, by omega, by omega, by omega, by omega, fun D nD => ?_⟩
    have nND := al1.fresh nD
    refine lc_it (walk_range (lo := 0) (n := ((m.n : Int) - 0).toNat)) (fun i G => Bld C Emp N H1 D (rng i fun a => intL m.n (fun j => if a = j then 1 else 0)) G) (bld0 nD) (fun _ _ _ _ => trivial) ?_ ?_
    · rintro i x G1 G2 hi bd ⟨rfl, rfl⟩
      rw [nn] at hi
      have hR1 := bd.k.same _ _ hR
      refine ⟨rfl, _, rfl, R, 0, (m.n : Int), rfl, hR1, by omega, by omega, by omega, by omega, fun D2 nD2 => ?_⟩
      refine lc_it (walk_range (lo := 0) (n := ((m.n : Int) - 0).toNat)) (fun j G => G D2 = some (.lst (iV j (fun j => if i = j then 1 else 0))) ∧ Same G2 G) ⟨upd_same, Same.upd nD2⟩ (fun _ _ _ _ => trivial) ?_ ?_
      · rintro j y G3 G4 hj ⟨hD2, s3⟩ ⟨rfl, rfl⟩
        rw [nn] at hj
        refine ⟨rfl, _, rfl, _, rfl, rfl, .inr ⟨_, rfl, _, hD2, ?_, ?_, fun c o hc => ?_⟩⟩
        · rw [iV_len]; exact small1000 (by omega)
        · rw [upd_same, iV_succ]
          congr 4
          by_cases e : i = j
          · subst e; rw [if_pos (decide_eq_true rfl), if_pos rfl]
          · rw [if_neg e, if_neg (fun z => e (by have := of_decide_eq_true z; injection this; omega))]
        · rw [upd_ne (ne_of_none hc nD2)]
          exact s3 _ _ hc
      · rintro G3 ⟨hD2, s3⟩
        rw [nn] at hD2
        obtain ⟨acc, h1, h2, h3⟩ := bd.step nD (Same.keep s3) (fun _ z => z.elim) id (at_ints hD2 ((bd.alc al1).fresh nD2))
        refine ⟨acc, h1, by rw [h2, rng_len]; exact small1000 (by omega), ?_⟩
        rw [rng_succ]
        exact h3
    rintro G1 bd
    rw [nn] at bd
    have hD := bd.done nND
    have sG := s1.trans bd.k.same
    have alG := al1.keep bd.k
    refine ⟨(by show 2 ≤ sizeLine; decide), fun tt ntt => ⟨tt, _, rfl, SqT.of upd_same, rfl, _, _, rfl, _, _, rfl, rfl, ?_⟩⟩
    have s2 := sG.trans (Same.upd (o := .tup [.ref D, .int 1]) ntt)
    have hD2 := hD.same (Same.upd (o := .tup [.ref D, .int 1]) ntt)
    generalize upd G1 tt (.tup [.ref D, .int 1]) = H2 at *
    refine ⟨_, rfl, _, rfl, for_it (walk_str (z := wd u)) (fun i σ H' => ∃ (q : Addr) (z : Nat → Nat → Int) (B : Int) (o5 o6 o7 : Option V), σ = [some (.ref p), some (.str (wd u)), some (.ref R), some (.ref q), some (.int B), o5, o6, o7, none, none, none] ∧ But ab H H' ∧ MachAt C CM N H' p ab m ∧ At C N H' (.ref q) (.lst (rng m.n fun a => intL m.n (z a))) ∧ Bt (b * i + 1) B ∧ ∀ a, a < m.n → Abv m.n (tabN m (u.take i) a) (z a) B (b * i + 1) (1 + i * (t + m.n)))
      ⟨D, fun a j => if a = j then 1 else 0, 1, none, none, none, rfl, Same.but s2, hm.same s2, hD2, by rw [Nat.mul_zero, Nat.zero_add]; show (1 : Int).natAbs < 2 ^ 1; decide, fun a ha => by rw [List.take_zero]; exact abv_unit.up (by omega) (by omega)⟩ (fun _ _ _ _ _ => trivial) ?_ ?_⟩
    · rintro i x σ H3 H4 hi ⟨q, z, B, o5, o6, o7, rfl, hb2, hm2, hq, hB, av⟩ ⟨rfl, c, hc, rfl⟩
      rw [wl] at hi
      rw [wd_at, List.getElem?_eq_getElem hi] at hc
      obtain rfl := Option.some.inj hc
      have xk : u[i] < m.k := hu _ (List.getElem_mem hi)
      have al2 : Alc N H4 := al.keep (Keep.but hb2 na hm2.there)
      have szx := sz.sT _ xk
      obtain ⟨dx2, vS2, vT2, vE2, hp2, _, _, _⟩ := hm2.ex
      refine ⟨_, rfl, p, dx2, _, rfl, hp2, mf_no (by decide +kernel) (by decide +kernel) (by decide +kernel) (by decide +kernel) (by decide +kernel), _, rfl, N, p, ab, m, u[i], b, t, rfl, hm2, al2, xk, szx, b1, t1, fun v H5 b4 hm4 hv => ?_⟩
      have k4' : Keep N H4 H5 := Keep.but b4 na hm4.there
      obtain ⟨rv, rfl⟩ := hv.tupV
      obtain ⟨xs, hx, lx, ex⟩ := hv.tupE
      match xs, lx with
      | [w0, w1], _ =>
      have h0 := ex 0 w0 _ rfl rfl
      have h1 := (ex 1 w1 _ rfl rfl).intV
      subst h1
      obtain ⟨sq, rfl⟩ := h0.lstV
      refine ⟨rv, _, rfl, SqT.of hx, rfl, _, _, rfl, _, _, rfl, rfl, ?_⟩
      have bz : 1 + i * (t + m.n) ≤ 60000000 := by
        have : i * (t + m.n) ≤ 400 * (100000 + 1000) := Nat.mul_le_mul (by omega) (by omega)
        omega
      have bb : b * i + 1 ≤ 60000000 := by
        have : b * i ≤ 12999 * 401 := Nat.mul_le_mul b1 (by omega)
        omega
      have hq4 := hq.keep k4'
      have al4 := al2.keep k4'
      obtain ⟨ys, hys, ly, ey⟩ := At.lstR hq4
      refine ⟨_, rfl, q, rfl, ⟨_, SqL.of hys⟩, fun D' nD' => ?_⟩
      have nND' := al4.fresh nD'
      refine lc_it (walk_list (K := K) (a := q) (xs := ys)) (fun a G => Bld C Emp N H5 D' (rng a fun a => intL m.n fun j => wsum (z a) (fun i' => topz (m.t u[i] i') ((cbt (m.t u[i]) m.n m.n : Nat) : Int) j) m.n) G) (bld0 nD') (fun i G _ b => SqL.of (b.k.same _ _ hys)) ?_ ?_
      · rintro a y G2 G3 ha bb1 ⟨rfl, hy⟩
        rw [ly] at ha
        obtain ⟨y', hy', hd'⟩ := ey a ha
        rw [hy'] at hy
        obtain rfl := Option.some.inj hy
        obtain ⟨qy, rfl⟩ := hd'.lstV
        have h00 : At C N H5 (.ref sq) (.lst (rng m.n fun i' => intL m.n (topz (m.t u[i] i') ((cbt (m.t u[i]) m.n m.n : Nat) : Int)))) := h0
        refine ⟨rfl, _, rfl, _, rfl, And1 N D', qy, sq, m.n, z a, fun i' => topz (m.t u[i] i') ((cbt (m.t u[i]) m.n m.n : Nat) : Int), rfl, bb1.old nD' (fun _ z => z.elim) hd', bb1.old nD' (fun _ z => z.elim) h00, bb1.alc al4, n1, fun l hl => Hg.bt ((av a ha).bt l hl) bz, fun l hl l2 hl2 => Hg.bt (szx.t l hl l2 hl2) (by omega), fun q' G4 s4 nq' hq' => ?_⟩
        obtain ⟨acc, h1, h2, h3⟩ := bb1.step nD' (Same.keep s4) (fun _ z => z.elim) id hq'
        refine ⟨acc, h1, by rw [h2, rng_len]; exact small1000 (by omega), ?_⟩
        rw [rng_succ]
        exact h3
      · rintro G2 bb1
        rw [ly] at bb1
        refine ⟨_, rfl, _, rfl, _, _, rfl, rfl, ⟨Hg.bt hB bb, Hg.bt szx.b (by omega)⟩, ?_⟩
        have e : u.take (i + 1) = u.take i ++ [u[i]] := by
          rw [List.take_add_one, List.getElem?_eq_getElem hi]
          rfl
        refine ⟨D', _, _, _, _, _, rfl, (hb2.trans b4).trans (Same.but bb1.k.same), hm4.same bb1.k.same, bb1.done nND', (hB.mul szx.b).up (by rw [Nat.mul_succ]; omega), fun a ha => ?_⟩
        have st := abv_step (av a ha) szx
        have er : tabN m (u.take (i + 1)) a = fun j => VM.dot (tabN m (u.take i) a) (fun l => m.t u[i] l j) m.n := by
          unfold tabN
          rw [e, tab_snoc]
        rw [er]
        exact st.up (by rw [Nat.mul_succ]; omega) (by rw [Nat.succ_mul i]; omega)
    · rintro σ H3 ⟨q, z, B, o5, o6, o7, rfl, hb2, hm2, hq, _, av⟩
      rw [wl, List.take_length] at av
      have k2 := Keep.but hb2 na hm2.there
      have al3 := al.keep k2
      obtain ⟨ys, hys, ly, ey⟩ := At.lstR hq
      refine ⟨_, rfl, q, rfl, ⟨_, SqL.of hys⟩, fun D' nD' => ?_⟩
      have nND' := al3.fresh nD'
      refine lc_it (walk_list (K := K) (a := q) (xs := ys)) (fun a G => Bld C Emp N H3 D' (rng a fun a => ratR m.n (tabN m u a)) G) (bld0 nD') (fun i G _ b => SqL.of (b.k.same _ _ hys)) ?_ ?_
      · rintro a y G2 G3 ha bb1 ⟨rfl, hy⟩
        rw [ly] at ha
        obtain ⟨y', hy', hd'⟩ := ey a ha
        rw [hy'] at hy
        obtain rfl := Option.some.inj hy
        obtain ⟨qy, rfl⟩ := hd'.lstV
        refine ⟨rfl, _, rfl, _, rfl, And1 N D', qy, m.n, z a, B, tabN m u a, rfl, bb1.old nD' (fun _ z => z.elim) hd', bb1.alc al3, n1, (av a ha).b0, (av a ha).eq, fun q' G4 s4 nq' hq' => ?_⟩
        obtain ⟨acc, h1, h2, h3⟩ := bb1.step nD' (Same.keep s4) (fun _ z => z.elim) id hq'
        refine ⟨acc, h1, by rw [h2, rng_len]; exact small1000 (by omega), ?_⟩
        rw [rng_succ]
        exact h3
      · rintro G2 bb1
        rw [ly] at bb1
        obtain ⟨zs, hzs, lz, ez⟩ := (bb1.done nND').lstE
        refine ⟨D', zs, rfl, .inl ⟨SqL.of hzs, fun r nr => ?_⟩⟩
        have sr := bb1.k.same.trans (Same.upd (o := .tup zs) nr)
        exact k r _ (hb2.trans (Same.but sr)) (k2.free (bb1.k.same.free nr)) (hm2.same sr) (At.newT (al3.keep bb1.k) nr lz ez)
end
end RX

set_option Elab.async false
set_option maxRecDepth 100000
namespace RX
open PySem L2 LX VA VM
open RQ (Hg Bt)
abbrev sDot : Stmt := topS 47
theorem scDo : FnScope ["one", "two", "total", "k"] ["one", "two"] (defScope sDot) := ⟨rfl, rfl, rfl, by decide +kernel, rfl, by decide +kernel, by decide +kernel⟩
abbrev sRowBy : Stmt := topS 48
theorem scRb : FnScope ["line", "step", "found", "place", "other"] ["line", "step"] (defScope sRowBy) := ⟨rfl, rfl, rfl, by decide +kernel, rfl, by decide +kernel, by decide +kernel⟩
abbrev sLRow : Stmt := topS 49
theorem scRw : FnScope ["parts", "word", "found", "letter"] ["parts", "word"] (defScope sLRow) := ⟨rfl, rfl, rfl, by decide +kernel, rfl, by decide +kernel, by decide +kernel⟩
/-- sizes that a sum of products wants -/
structure DotOk (n : Nat) (u v : Nat → Rat) : Prop where
  a : ∀ i, i < n → HgQ (u i)
  b : ∀ i, i < n → HgQ (v i)
  p : ∀ i, i < n → HgQ (u i * v i)
  s : ∀ m, m ≤ n → HgQ (dot u v m)
theorem hgQ_ov {M : Int} {T b : Nat} {q : Rat} (m0 : M ≠ 0) (bM : Bt b M) (h : Ov M T q) (hT : T ≤ 60000000) (hb : b ≤ 60000000) : HgQ q :=
  let d := h.den m0
  ⟨⟨T, hT, d.2⟩, ⟨b, hb, dvd_bt d.1 m0 bM⟩⟩
theorem dotOk_ov {n S T d e : Nat} {D E : Int} {u v : Nat → Rat} (d0 : D ≠ 0) (e0 : E ≠ 0) (bD : Bt d D) (bE : Bt e E) (hu : ∀ i, i < n → Ov D S (u i)) (hv : ∀ i, i < n → Ov E T (v i)) (h1 : S + T + n ≤ 60000000) (h2 : d + e ≤ 60000000) : DotOk n u v :=
  ⟨fun i hi => hgQ_ov d0 bD (hu i hi) (by omega) (by omega), fun i hi => hgQ_ov e0 bE (hv i hi) (by omega) (by omega),
   fun i hi => hgQ_ov (Int.mul_ne_zero d0 e0) (bD.mul bE) ((hu i hi).mul (hv i hi)) (by omega) h2, fun m hm => hgQ_ov (Int.mul_ne_zero d0 e0) (bD.mul bE) (VN.half_ov hu hv hm) h1 h2⟩
def spDo (C : Addr) : Sp := fun vs H Q _ => ∃ (N : Addr → Prop) (p q : Addr) (n : Nat) (u v : Nat → Rat), vs = [.ref p, .ref q] ∧ At C N H (.ref p) (prL n u) ∧ At C N H (.ref q) (prL n v) ∧ Alc N H ∧ n ≤ 1000 ∧ DotOk n u v ∧
  ∀ (r : Addr) (H' : Hp), Same H H' → H r = none → At C N H' (.ref r) (prD (dot u v n)) → Q (.ref r) H'
def spRb (C : Addr) : Sp := fun vs H Q _ => ∃ (N : Addr → Prop) (p q : Addr) (n : Nat) (u : Nat → Rat) (U : Nat → Nat → Rat), vs = [.ref p, .ref q] ∧ At C N H (.ref p) (prL n u) ∧ At C N H (.ref q) (prT n n U) ∧ Alc N H ∧ n ≤ 1000 ∧ (∀ j, j < n → DotOk n u fun i => U i j) ∧
  ∀ (r : Addr) (H' : Hp), Same H H' → H r = none → At C N H' (.ref r) (prL n fun j => dot u (fun i => U i j) n) → Q (.ref r) H'
/-- sizes of the law's machine -/
theorem pszA_nx {m : Mc} (z : PszA m) : ∃ Nx : Nat → Int, (∀ x, Nx x ≠ 0) ∧ (∀ x, Bt 5801 (Nx x)) ∧ (∀ x i j, i < m.n → j < m.n → Ov (Nx x) 6162 (m.t x i j)) ∧ ∀ u : List Nat, Bt (5801 * u.length + 1) (VN.prod Nx u) := by
  have ch : ∀ x, ∃ M : Int, M ≠ 0 ∧ Bt 5801 M ∧ ∀ i, i < m.n → ∀ j, j < m.n → Ov M 6162 (m.t x i j) := fun x => (z.t x).ex
  obtain ⟨Nx, hN⟩ := Classical.axiomOfChoice ch
  refine ⟨Nx, fun x => (hN x).1, fun x => (hN x).2.1, fun x i j hi hj => (hN x).2.2 i hi j hj, fun u => ?_⟩
  induction u with
  | nil => exact show (1 : Int).natAbs < 2 ^ (5801 * 0 + 1) by decide
  | cons x u ih =>
    have := (hN x).2.1.mul ih
    rw [List.length_cons, Nat.mul_succ]
    exact this.up (by omega)
/-- rows and columns of words of at most 400 letters are over some bottom -/
structure Big (n : Nat) (q : Nat → Rat) : Prop where
  ex : ∃ E : Int, E ≠ 0 ∧ Bt 2400000 E ∧ ∀ j, j < n → Ov E 2500000 (q j)
theorem row_big {m : Mc} (z : PszA m) {r : Nat → Rat} (hr : RowB m.n 5801 6162 r) {u : List Nat} (hu : u.length ≤ 400) : Big m.n (VN.row m.n m.t r u) := by
  obtain ⟨Nx, n0, _, hN, bp⟩ := pszA_nx z
  obtain ⟨D, d0, bD, o⟩ := hr.ex
  have nn := z.n1
  refine ⟨D * VN.prod Nx u, Int.mul_ne_zero d0 (VN.prod_ne n0), (bD.mul (bp u)).up ?_, fun j hj => (VN.row_ov hN o j hj).up ?_⟩
  · have : 5801 * u.length ≤ 5801 * 400 := Nat.mul_le_mul_left _ hu
    omega
  · have : (6162 + m.n) * u.length ≤ 6182 * 400 := Nat.mul_le_mul (by omega) hu
    omega
theorem col_big {m : Mc} (z : PszA m) {c : Nat → Rat} (hc : RowB m.n 5801 6162 c) {u : List Nat} (hu : u.length ≤ 400) : Big m.n (VN.col m.n m.t c u) := by
  obtain ⟨Nx, n0, _, hN, bp⟩ := pszA_nx z
  obtain ⟨D, d0, bD, o⟩ := hc.ex
  have nn := z.n1
  refine ⟨VN.prod Nx u * D, Int.mul_ne_zero (VN.prod_ne n0) d0, ((bp u).mul bD).up ?_, fun j hj => (VN.col_ov hN o j hj).up ?_⟩
  · have : 5801 * u.length ≤ 5801 * 400 := Nat.mul_le_mul_left _ hu
    omega
  · have : (6162 + m.n) * u.length ≤ 6182 * 400 := Nat.mul_le_mul (by omega) hu
    omega
theorem unit_row {n i : Nat} : RowB n 5801 6162 (VN.unit i) := ⟨1, by decide, show (1 : Int).natAbs < 2 ^ 5801 from Nat.one_lt_two_pow (by decide), fun j hj => by
  show Ov 1 6162 (if i = j then (1 : Rat) else 0)
  by_cases e : i = j
  · rw [if_pos e]
    exact Ov.one (show (1 : Int).natAbs < 2 ^ 6162 from Nat.one_lt_two_pow (by decide))
  · rw [if_neg e]
    exact Ov.zero _ _⟩
theorem dotOk_col {m : Mc} (z : PszA m) {q : Nat → Rat} (h : Big m.n q) (x : Nat) {j : Nat} (hj : j < m.n) : DotOk m.n q fun i => m.t x i j := by
  obtain ⟨E, e0, bE, o⟩ := h.ex
  obtain ⟨M, m0, bM, p⟩ := (z.t x).ex
  have nn := z.n1
  exact dotOk_ov e0 m0 bE bM o (fun i hi => p i hi j hj) (by omega) (by omega)
theorem dotOk_row {m : Mc} (z : PszA m) {q : Nat → Rat} (h : Big m.n q) (x : Nat) {i : Nat} (hi : i < m.n) : DotOk m.n (m.t x i) q := by
  obtain ⟨E, e0, bE, o⟩ := h.ex
  obtain ⟨M, m0, bM, p⟩ := (z.t x).ex
  have nn := z.n1
  exact dotOk_ov m0 e0 bM bE (fun j hj => p i hi j hj) o (by omega) (by omega)
theorem dotOk_end {m : Mc} (z : PszA m) {q : Nat → Rat} (h : Big m.n q) : DotOk m.n q m.e := by
  obtain ⟨E, e0, bE, o⟩ := h.ex
  obtain ⟨M, m0, bM, p⟩ := z.e.ex
  have nn := z.n1
  exact dotOk_ov e0 m0 bE bM o p (by omega) (by omega)
def spLw (C : Addr) : Sp := fun vs H Q _ => ∃ (N : Addr → Prop) (q : Addr) (m : Mc) (u : List Nat), vs = [.ref q, .str (wd u)] ∧ At C N H (.ref q) (partsD m) ∧ Alc N H ∧ PszA m ∧ Ltk m.k u ∧ u.length ≤ 400 ∧
  ∀ (r : Addr) (H' : Hp), Same H H' → At C N H' (.ref r) (prL m.n (rowN m u)) → Q (.ref r) H'
def spLc (C : Addr) : Sp := fun vs H Q _ => ∃ (N : Addr → Prop) (q : Addr) (m : Mc) (u : List Nat), vs = [.ref q, .str (wd u)] ∧ At C N H (.ref q) (partsD m) ∧ Alc N H ∧ PszA m ∧ Ltk m.k u ∧ u.length ≤ 400 ∧
  ∀ (r : Addr) (H' : Hp), Same H H' → At C N H' (.ref r) (prL m.n (colN m u)) → Q (.ref r) H'
def spLb (C : Addr) : Sp := fun vs H Q _ => ∃ (N : Addr → Prop) (q : Addr) (m : Mc) (u : List Nat), vs = [.ref q, .str (wd u)] ∧ At C N H (.ref q) (partsD m) ∧ Alc N H ∧ PszA m ∧ Ltk m.k u ∧ u.length ≤ 400 ∧
  ∀ (r : Addr) (H' : Hp), Same H H' → At C N H' (.ref r) (prT m.n m.n (tabN m u)) → Q (.ref r) H'
/-- the parts of a list of parts -/
theorem At.parts {C : Addr} {N : Addr → Prop} {H : Hp} {q : Addr} {m : Mc} (h : At C N H (.ref q) (partsD m)) : ∃ a b c : Addr, H q = some (.lst [.ref a, .ref b, .ref c]) ∧ At C N H (.ref a) (prL m.n m.s) ∧ At C N H (.ref b) (.lst (rng m.k fun x => prT m.n m.n (m.t x))) ∧ At C N H (.ref c) (prL m.n m.e) := by
  obtain ⟨ys, hy, ly, ey⟩ := h.lstE
  match ys, ly with
  | [v0, v1, v2], _ =>
  have h0 := ey 0 v0 _ rfl rfl
  have h1 := ey 1 v1 _ rfl rfl
  have h2 := ey 2 v2 _ rfl rfl
  obtain ⟨a, rfl⟩ := h0.lstV
  obtain ⟨b, rfl⟩ := h1.lstV
  obtain ⟨c, rfl⟩ := h2.lstV
  exact ⟨a, b, c, hy, h0, h1, h2⟩
section
variable {P : Program} {w : World} {K : PySem.W.Frag} {mg : Str → Option Value} {base : Heap}
theorem ne_num {q : Rat} (h : q ≠ 0) : V.int q.num ≠ V.int 0 := fun z => h (RQ.num0.mp (by injection z))
theorem ok_do {f fS fB C : Addr} {fd dS dB : FuncData} (F : Fun K "_law_dot" "_law_dot" sDot f fd) (T : TxtL mg) (cSu : CalN P w K mg base "_law_sum" 34 ["one", "two"] spSumQ fS dS) (cBy : CalN P w K mg base "_law_by" 34 ["one", "two"] spByQ fB dB) : FnOk P w K mg base CX0 35 f fd ["one", "two"] (spDo C) := by
  refine F.ok scDo (fun vs H Q E h => ?_) (fun cdv A outer s H vs Q E hr h => ?_)
  · obtain ⟨N, p, q, n, u, v, rfl, _⟩ := h
    rfl
  · obtain ⟨N, p, q, n, u, v, rfl, hp, hq, al, hn, ok, kk⟩ := h
    have hr34 : Room 34 _ := hr
    obtain ⟨xs, hx, lx, ex⟩ := At.lstR hp
    obtain ⟨ys, hy, ly, ey⟩ := At.lstR hq
    refine ⟨_, pss_cons (ps_set (i := 2) scDo.nd rfl (.inl rfl) (pe_tup (pa_cons pe_int (pa_cons pe_int pa_nil))))
      (pss_cons (ps_for PassesOwn.never rfl (pi_range1 (by rfl) T.range (pa_cons (pe_callB call_len_seq (by rfl) T.len PySem.boot_len (pa_cons (pv 0) pa_nil)) pa_nil)) (pg_name (i := 3) scDo.nd rfl (.inl rfl))
        (pss_one (ps_if (PW.pt (pw_and (pt_cmpR op_ne (pe_ix ix_tup (pe_ix ix_list (pv 0) (pv 3) (fun _ _ => rfl)) pe_int (fun _ _ => rfl)) pe_int (nomark _)) (pw_and1 (pt_cmpR op_ne (pe_ix ix_tup (pe_ix ix_list (pv 1) (pv 3) (fun _ _ => rfl)) pe_int (fun _ _ => rfl)) pe_int (nomark _)))))
          (pss_one (ps_set (i := 2) scDo.nd rfl (.inl rfl) (pe_call cSu.G hr34 rfl cSu.m cSu.kp cSu.b .nil pass0 (pa_cons (pv 2) (pa_cons (pe_call cBy.G hr34 rfl cBy.m cBy.kp cBy.b .nil pass0 (pa_cons (pe_ix ix_list (pv 0) (pv 3) (fun _ _ => rfl)) (pa_cons (pe_ix ix_list (pv 1) (pv 3) (fun _ _ => rfl)) pa_nil))) pa_nil)))))
          pss_nil)))
      (pss_one (ps_ret (pv 2)))), ?_⟩
    refine ⟨(by show 2 ≤ sizeLine; decide), fun t0 nt => ?_⟩
    have s0 : Same H (upd H t0 (.tup [.int 0, .int 1])) := Same.upd nt
    have ht0 : PrQ (upd H t0 (.tup [.int 0, .int 1])) t0 0 := show PairAt _ t0 0 1 from upd_same
    refine ⟨_, rfl, p, xs, rfl, .inl (SqL.of (s0 _ _ hx)), _, rfl, by rw [lx]; omega, by rw [lx]; omega, for_range (n := xs.length) (fun i σ G => ∃ t o3, σ = [some (.ref p), some (.ref q), some (.ref t), o3] ∧ Same H G ∧ H t = none ∧ PrQ G t (dot u v i)) ⟨t0, none, rfl, s0, nt, ht0⟩ ?_ ?_⟩
    · rintro i σ G hi ⟨t, o3, rfl, s1, ntt, ht⟩
      rw [lx] at hi
      obtain ⟨x, hx1, hx2⟩ := ex i hi
      obtain ⟨y, hy1, hy2⟩ := ey i hi
      obtain ⟨a, rfl, ha, _⟩ := (hx2.same s1).pair
      obtain ⟨b, rfl, hb, _⟩ := (hy2.same s1).pair
      have hxG := s1 _ _ hx
      have hyG := s1 _ _ hy
      have skip : u i * v i = 0 → dot u v (i + 1) = dot u v i := fun z => by
        show dot u v i + u i * v i = _
        rw [z]
        grind
      refine ⟨_, rfl, _, rfl, p, _, _, _, rfl, rfl, SqL.of hxG, at_of (Int.zero_add _) hx1, a, _, 0, _, rfl, rfl, ha.t, rfl, rfl, _, rfl, ?_⟩
      by_cases z : u i = 0
      · refine itF (by rw [show (u i).num = 0 by rw [z]; rfl, decide_eq_true rfl]; rfl) ?_
        exact ⟨t, _, rfl, s1, ntt, by rw [skip (by rw [z, Rat.zero_mul])]; exact ht⟩
      refine itT (by rw [decide_eq_false (ne_num z)]; rfl) ?_
      refine ⟨_, rfl, _, rfl, q, _, _, _, rfl, rfl, SqL.of hyG, at_of (Int.zero_add _) hy1, b, _, 0, _, rfl, rfl, hb.t, rfl, rfl, _, rfl, ?_⟩
      by_cases z2 : v i = 0
      · refine itF (by rw [show (v i).num = 0 by rw [z2]; rfl, decide_eq_true rfl]; rfl) ?_
        exact ⟨t, _, rfl, s1, ntt, by rw [skip (by rw [z2, Rat.mul_zero])]; exact ht⟩
      refine itT (by rw [decide_eq_false (ne_num z2)]; rfl) ?_
      refine ⟨_, rfl, _, rfl, _, rfl, p, _, _, _, rfl, rfl, SqL.of hxG, at_of (Int.zero_add _) hx1, _, rfl, _, rfl, q, _, _, _, rfl, rfl, SqL.of hyG, at_of (Int.zero_add _) hy1, a, b, u i, v i, rfl, ha, hb, ok.a i hi, ok.b i hi, fun r G2 s2 nr hr2 => ?_⟩
      refine ⟨t, r, dot u v i, u i * v i, rfl, ht.same s2, hr2, ok.s i (by omega), ok.p i hi, fun r3 G3 s3 nr3 hr3 => ?_⟩
      exact ⟨r3, _, rfl, (s1.trans s2).trans s3, (s1.trans s2).free nr3, hr3⟩
    · rintro σ G ⟨t, o3, rfl, s1, ntt, ht⟩
      rw [lx] at ht
      exact ⟨_, rfl, kk t G s1 ntt (at_pair ht (al.fresh ntt))⟩
theorem ok_rb {f fD C : Addr} {fd dD : FuncData} (F : Fun K "_law_row_by" "_law_row_by" sRowBy f fd) (T : TxtL mg) (cDo : CalN P w K mg base "_law_dot" 35 ["one", "two"] (spDo C) fD dD) : FnOk P w K mg base CX0 36 f fd ["line", "step"] (spRb C) := by
  refine F.ok scRb (fun vs H Q E h => ?_) (fun cdv A outer s H vs Q E hr h => ?_)
  · obtain ⟨N, p, q, n, u, U, rfl, _⟩ := h
    rfl
  · obtain ⟨N, p, q, n, u, U, rfl, hp, hq, al, hn, ok, kk⟩ := h
    have hr35 : Room 35 _ := hr
    obtain ⟨xs, hx, lx, ex⟩ := At.lstR hp
    obtain ⟨ys, hy, ly, ey⟩ := At.lstR hq
    refine ⟨_, pss_cons (ps_set (i := 2) scRb.nd rfl (.inl rfl) (pe_lst pa_nil))
      (pss_cons (ps_for PassesOwn.never rfl (pi_range1 (by rfl) T.range (pa_cons (pe_callB call_len_seq (by rfl) T.len PySem.boot_len (pa_cons (pv 0) pa_nil)) pa_nil)) (pg_name (i := 3) scRb.nd rfl (.inr rfl))
        (pss_one (ps_expr (pe_bm PySem.F.plainAttrs_list PySem.F.slot_list_append PySem.F.type_list_append mt_append (pv 2) (pa_cons (pe_call cDo.G hr35 rfl cDo.m cDo.kp cDo.b .nil pass0 (pa_cons (pv 0) (pa_cons (pe_lc (own := [("other", 4)]) (g := gName 4) (tt := tYes) rfl scRb.nd (pi_list (pv 1)) (blkOk_by (N := ["line", "step", "found", "place", "other"]) (sc := (defScope sRowBy)) (by decide +kernel)) (fun _ _ _ _ _ => (pg_name (i := 4) scRb.nd rfl (.inl rfl))) (fun _ _ _ _ _ => pts_nil) (fun _ _ _ _ _ => (pe_ix (show IxR _ (rIxL K) from ix_list) (pv 4) (pv 3) (fun _ _ => rfl)))) pa_nil))) pa_nil)))))
      (pss_one (ps_ret (pv 2)))), ?_⟩
    refine ⟨(by show 0 ≤ sizeLine; decide), fun D nD => ?_⟩
    have nND := al.fresh nD
    have s0 : Same H (upd H D (.lst [])) := Same.upd nD
    refine ⟨_, rfl, p, xs, rfl, .inl (SqL.of (s0 _ _ hx)), _, rfl, by rw [lx]; omega, by rw [lx]; omega, for_range (n := xs.length) (fun i σ G => ∃ o3, σ = [some (.ref p), some (.ref q), some (.ref D), o3, none] ∧ Bld C Emp N H D (rng i fun j => prD (dot u (fun i => U i j) n)) G) ⟨none, rfl, bld0 nD⟩ ?_ ?_⟩
    · rintro j σ G hj ⟨o3, rfl, bd⟩
      rw [lx] at hj
      have al1 := bd.alc al
      have hyG := bd.k.same _ _ hy
      have nDne : ∀ {G' : Hp}, Same G G' → ∃ acc, G' D = some (.lst acc) := fun s => by
        obtain ⟨acc, h, _⟩ := bd.xs
        exact ⟨acc, s _ _ h⟩
      obtain ⟨acc0, hacc0, _⟩ := bd.xs
      refine ⟨_, rfl, .inl ⟨rfl, _, SqL.of hacc0⟩, _, rfl, _, rfl, q, rfl, ⟨_, SqL.of hyG⟩, fun L nL => ?_⟩
      refine lc_it (walk_list (K := K) (a := q) (xs := ys)) (fun i G' => Bld C Emp (And1 N D) G L (rng i fun i => prD (U i j)) G') (bld0 nL) (fun i G' _ b => SqL.of (b.k.same _ _ hyG)) ?_ ?_
      · rintro i x G1 G2 hi b2 ⟨rfl, hxx⟩
        rw [ly] at hi
        obtain ⟨y, hy1, hy2⟩ := ey i hi
        rw [hy1] at hxx
        obtain rfl := Option.some.inj hxx
        obtain ⟨ln, rfl⟩ := hy2.lstV
        have hy3 := b2.old nL (fun _ z => z.elim) (bd.old nD (fun _ z => z.elim) hy2)
        obtain ⟨zs, hz, lz, ez⟩ := At.lstR hy3
        obtain ⟨e, he1, he2⟩ := ez j hj
        refine ⟨rfl, _, rfl, _, rfl, ln, _, _, _, rfl, rfl, SqL.of hz, at_of (Int.zero_add _) he1, ?_⟩
        obtain ⟨acc, h1, h2, h3⟩ := b2.step nL (Keep.refl) (fun _ z => z.elim) id he2
        refine ⟨acc, h1, by rw [h2, rng_len]; exact small1000 (by omega), ?_⟩
        rw [rng_succ]
        exact h3
      · rintro G1 b2
        rw [ly] at b2
        have hL := b2.done (al1.fresh nL)
        have hp2 : At C (And1 N D) G1 (.ref p) (prL n u) := (bd.old nD (fun _ z => z.elim) hp).same b2.k.same
        refine ⟨And1 N D, p, L, n, u, fun i => U i j, rfl, hp2, hL, al1.keep b2.k, hn, ok j hj, fun r G2 s2 nr hr2 => ?_⟩
        obtain ⟨acc, h1, h2, h3⟩ := bd.step nD (b2.k.trans (Same.keep s2)) (fun _ z => z.elim) id hr2
        refine ⟨D, acc, _, rfl, rfl, h1, by rw [h2, rng_len]; exact small1000 (by omega), _, rfl, ?_⟩
        rw [rng_succ]
        exact h3
    · rintro σ G ⟨o3, rfl, bd⟩
      rw [lx] at bd
      exact ⟨_, rfl, kk D G bd.k.same nD (bd.done nND)⟩
theorem ok_lw {f fR C : Addr} {fd dR : FuncData} (F : Fun K "_law_row" "_law_row" sLRow f fd) (cRb : CalN P w K mg base "_law_row_by" 36 ["line", "step"] (spRb C) fR dR) : FnOk P w K mg base CX0 37 f fd ["parts", "word"] (spLw C) := by
  refine F.ok scRw (fun vs H Q E h => ?_) (fun cdv A outer s H vs Q E hr h => ?_)
  · obtain ⟨N, q, m, u, rfl, _⟩ := h
    rfl
  · obtain ⟨N, q, m, u, rfl, hq, al, z, hu, lu, kk⟩ := h
    have hr36 : Room 36 _ := hr
    obtain ⟨a, b, c, hy, ha, hb, hc⟩ := hq.parts
    have wl : (wd u).cps.size = u.length := wd_len
    have k4 := z.k4
    have n1 := z.n1
    refine ⟨_, pss_cons (ps_set (i := 2) scRw.nd rfl (.inl rfl) (pe_ix ix_list (pv 0) pe_int (fun _ _ => rfl)))
      (pss_cons (ps_for PassesOwn.never rfl (pi_str (pv 1)) (pg_name (i := 3) scRw.nd rfl (.inl rfl))
        (pss_one (ps_set (i := 2) scRw.nd rfl (.inl rfl) (pe_call cRb.G hr36 rfl cRb.m cRb.kp cRb.b .nil pass0 (pa_cons (pv 2) (pa_cons (pe_ix ix_list (pe_ix ix_list (pv 0) pe_int (fun _ _ => rfl)) (pe_bm PySem.F.plainAttrs_str PySem.F.slot_str_index PySem.F.type_str_index LX.mt_letter pe_str (pa_cons (pv 3) pa_nil)) (fun _ _ => rfl)) pa_nil))))))
      (pss_one (ps_ret (pv 2)))), ?_⟩
    refine ⟨_, rfl, q, _, 0, _, rfl, rfl, SqL.of hy, rfl, ?_⟩
    refine ⟨_, rfl, _, rfl, for_it (walk_str (z := wd u)) (fun i σ G => ∃ r o3, σ = [some (.ref q), some (.str (wd u)), some (.ref r), o3] ∧ Same H G ∧ At C N G (.ref r) (prL m.n (rowN m (u.take i)))) ⟨a, none, rfl, Same.refl H, by rw [List.take_zero]; exact ha⟩ (fun _ _ _ _ _ => trivial) ?_ ?_⟩
    · rintro i x σ G1 G2 hi ⟨r, o3, rfl, s1, hr1⟩ ⟨rfl, ch, hch, rfl⟩
      rw [wl] at hi
      rw [wd_at, List.getElem?_eq_getElem hi] at hch
      obtain rfl := Option.some.inj hch
      have xk : u[i] < m.k := hu _ (List.getElem_mem hi)
      obtain ⟨ts, hts, lt, et⟩ := At.lstR (hb.same s1)
      obtain ⟨y, hy1, hy2⟩ := et _ xk
      obtain ⟨ty, rfl⟩ := hy2.lstV
      have big := row_big z z.s (u := u.take i) (by rw [List.length_take]; omega)
      refine ⟨_, rfl, _, rfl, q, _, 1, _, rfl, rfl, SqL.of (s1 _ _ hy), rfl, rfl, _, rfl, u[i], by omega, rfl, rfl, b, ts, _, _, rfl, rfl, SqL.of hts, at_of rfl hy1, N, r, ty, m.n, rowN m (u.take i), m.t u[i], rfl, hr1, hy2, al.keep (Same.keep (N := N) s1), by omega, fun j hj => dotOk_col z big _ hj, fun r2 G3 s3 nr2 hr2 => ?_⟩
      refine ⟨r2, _, rfl, s1.trans s3, ?_⟩
      have e : u.take (i + 1) = u.take i ++ [u[i]] := by
        rw [List.take_add_one, List.getElem?_eq_getElem hi]
        rfl
      have er : rowN m (u.take (i + 1)) = fun j => VM.dot (rowN m (u.take i)) (fun l => m.t u[i] l j) m.n := by
        unfold rowN
        rw [e, row_snoc]
      rw [er]
      exact hr2
    · rintro σ G ⟨r, o3, rfl, s1, hr1⟩
      rw [wl, List.take_length] at hr1
      exact ⟨_, rfl, kk r G s1 hr1⟩
end
end RX

set_option Elab.async false
set_option maxRecDepth 100000
namespace RX
open PySem L2 LX VA VM
open RQ (Hg Bt)
abbrev sLList : Stmt := topS 54
theorem scLst : FnScope ["line", "one"] ["line"] (defScope sLList) := ⟨rfl, rfl, rfl, by decide +kernel, rfl, by decide +kernel, by decide +kernel⟩
abbrev sLLists : Stmt := topS 55
theorem scLls : FnScope ["parts", "steps", "step", "line"] ["parts"] (defScope sLLists) := ⟨rfl, rfl, rfl, by decide +kernel, rfl, by decide +kernel, by decide +kernel⟩
/-- all that is there -/
def Al (H : Hp) : Addr → Prop := fun b => H b ≠ none
theorem alc_al {H : Hp} : Alc (Al H) H := fun _ h => h
theorem al_up {H H' : Hp} (s : Same H H') : ∀ b, Al H b → Al H' b := fun b h => (Same.keep (N := Emp) s).a b h
def ratsL (n : Nat) (u : Nat → Rat) : Dat := .lst (rng n fun j => .rat (u j))
def spLst (C : Addr) : Sp := fun vs H Q _ => ∃ (N : Addr → Prop) (q : Addr) (k : Nat) (u : Nat → Rat), vs = [.ref q] ∧ At C N H (.ref q) (prL k u) ∧ k ≤ 1000 ∧ ∀ (r : Addr) (H' : Hp), Same H H' → H r = none → At C (Al H) H' (.ref r) (ratsL k u) → Q (.ref r) H'
/-- a list of lists: their addresses -/
theorem At.lstF {C : Addr} {N : Addr → Prop} {H : Hp} {p : Addr} {n : Nat} {f : Nat → List Dat} (h : At C N H (.ref p) (.lst (rng n fun i => .lst (f i)))) : ∃ a : Nat → Addr, H p = some (.lst (refs n a)) ∧ ∀ i, i < n → At C N H (.ref (a i)) (.lst (f i)) := by
  obtain ⟨xs, hp, l, e⟩ := At.lstR h
  have ch : ∀ i, ∃ a : Addr, i < n → xs[i]? = some (.ref a) ∧ At C N H (.ref a) (.lst (f i)) := fun i => by
    by_cases hi : i < n
    · obtain ⟨x, hx, hd⟩ := e i hi
      obtain ⟨a, rfl⟩ := hd.lstV
      exact ⟨a, fun _ => ⟨hx, hd⟩⟩
    · exact ⟨0, fun z => absurd z hi⟩
  obtain ⟨a, ha⟩ := Classical.axiomOfChoice ch
  refine ⟨a, ?_, fun i hi => (ha i hi).2⟩
  rw [hp]
  congr 2
  refine List.ext_getElem? fun i => ?_
  by_cases hi : i < n
  · rw [(ha i hi).1]
    unfold refs
    rw [List.getElem?_map, List.getElem?_range hi]
    rfl
  · rw [List.getElem?_eq_none (by omega), List.getElem?_eq_none (by rw [refs_len]; omega)]
/-- what the law passes to a machine: all lists are new -/
structure Psd (C : Addr) (H0 H : Hp) (r rs rt re : Addr) (sa : Nat → Addr) (ra : Nat → Nat → Addr) (m : Mc) : Prop where
  hr : H r = some (.lst [.ref rs, .ref rt, .ref re])
  t : H rt = some (.lst (refs m.k sa))
  st : ∀ x, x < m.k → H (sa x) = some (.lst (refs m.n (ra x)))
  rw : ∀ x, x < m.k → ∀ i, i < m.n → At C (Al H0) H (.ref (ra x i)) (ratsL m.n (m.t x i))
  s : At C (Al H0) H (.ref rs) (ratsL m.n m.s)
  e : At C (Al H0) H (.ref re) (ratsL m.n m.e)
  fr : H0 r = none
  ft : H0 rt = none
  fs : ∀ x, x < m.k → H0 (sa x) = none
  d1 : rs ≠ re
  d2 : ∀ x, x < m.k → sa x ≠ rs ∧ sa x ≠ re
  d3 : ∀ x, x < m.k → ∀ i, i < m.n → ra x i ≠ rs ∧ ra x i ≠ re
  d4 : rt ≠ rs ∧ rt ≠ re
  d5 : ∀ x, x < m.k → rt ≠ sa x
  d6 : ∀ x, x < m.k → ∀ i, i < m.n → rt ≠ ra x i
  d7 : ∀ x, x < m.k → ∀ y, y < m.k → ∀ i, i < m.n → sa y ≠ ra x i
  d8 : r ≠ rs ∧ r ≠ rt ∧ r ≠ re
  d9 : ∀ x, x < m.k → r ≠ sa x ∧ ∀ i, i < m.n → r ≠ ra x i
theorem al_none {H : Hp} {p : Addr} (h : ¬ Al H p) : H p = none := by
  cases e : H p with
  | none => rfl
  | some o => exact absurd (show H p ≠ none by rw [e]; intro z; cases z) h
/-- a list whose items are no lists is not one whose first item is a list -/
theorem rats_ne {C : Addr} {N : Addr → Prop} {H : Hp} {p q : Addr} {n k : Nat} {u : Nat → Rat} {a : Nat → Addr} {xs : List V} (h : At C N H (.ref p) (ratsL n u)) (hq : H q = some (.lst (refs k a))) (k1 : 1 ≤ k) (h0 : H (a 0) = some (.lst xs)) : q ≠ p := by
  rintro rfl
  obtain ⟨ys, hy, l, e⟩ := At.lstR h
  rw [hy] at hq
  obtain rfl : ys = refs k a := by injection hq with z; injection z
  rw [refs_len] at l
  obtain ⟨y, hy0, hd⟩ := e 0 (by omega)
  have : (refs k a)[0]? = some (.ref (a 0)) := by
    unfold refs
    rw [List.getElem?_map, List.getElem?_range (by omega)]
    rfl
  rw [this] at hy0
  obtain rfl := Option.some.inj hy0
  obtain ⟨p', e', dx, hr⟩ := hd.ratV
  cases e'
  rw [h0] at hr
  cases hr
theorem psd_mk {C : Addr} {H H1 H2 H3 H' : Hp} {r rs rt re : Addr} {m : Mc} (k1 : 1 ≤ m.k) (s1 : Same H H1) (h1 : At C (Al H) H1 (.ref rt) (.lst (rng m.k fun x => .lst (rng m.n fun i => ratsL m.n (m.t x i))))) (s2 : Same H1 H2) (h2 : At C (Al H1) H2 (.ref rs) (ratsL m.n m.s))
    (s3 : Same H2 H3) (h3 : At C (Al H2) H3 (.ref re) (ratsL m.n m.e)) (s4 : Same H3 H') (nr : H3 r = none) (hr : H' r = some (.lst [.ref rs, .ref rt, .ref re])) : ∃ sa ra, Psd C H H' r rs rt re sa ra m := by
  obtain ⟨sa, ht, hs⟩ := h1.lstF
  have ch : ∀ x, ∃ b : Nat → Addr, x < m.k → H1 (sa x) = some (.lst (refs m.n b)) ∧ ∀ i, i < m.n → At C (Al H) H1 (.ref (b i)) (ratsL m.n (m.t x i)) := fun x => by
    by_cases hx : x < m.k
    · obtain ⟨b, h, hb⟩ := (hs x hx).lstF
      exact ⟨b, fun _ => ⟨h, hb⟩⟩
    · exact ⟨fun _ => 0, fun z => absurd z hx⟩
  obtain ⟨ra, hra⟩ := Classical.axiomOfChoice ch
  have nrs : H1 rs = none := al_none h2.notin
  have nre : H2 re = none := al_none h3.notin
  have s24 := s2.trans (s3.trans s4)
  have s34 := s3.trans s4
  have there : ∀ {b : Addr} {d : Dat}, At C (Al H) H1 (.ref b) d → b ≠ rs ∧ b ≠ re ∧ r ≠ b := fun {b d} h => by
    obtain ⟨o, ho⟩ : ∃ o, H1 b = some o := by
      cases e : H1 b with
      | none => exact absurd e h.there
      | some o => exact ⟨o, rfl⟩
    exact ⟨ne_of_none ho nrs, ne_of_none (s2 _ _ ho) nre, (ne_of_none (s3 _ _ (s2 _ _ ho)) nr).symm⟩
  obtain ⟨os, hos⟩ : ∃ o, H2 rs = some o := by
    cases e : H2 rs with
    | none => exact absurd e h2.there
    | some o => exact ⟨o, rfl⟩
  obtain ⟨oe, hoe⟩ : ∃ o, H3 re = some o := by
    cases e : H3 re with
    | none => exact absurd e h3.there
    | some o => exact ⟨o, rfl⟩
  have sup := al_up s1
  have k0 : 0 < m.k := k1
  refine ⟨sa, ra, ⟨hr, s24 _ _ ht, fun x hx => s24 _ _ (hra x hx).1, fun x hx i hi => ((hra x hx).2 i hi).same s24, (h2.less sup).same s34, (h3.less fun b z => al_up s2 b (sup b z)).same s4, ?_, al_none h1.notin, fun x hx => al_none (hs x hx).notin,
    ne_of_none hos nre, fun x hx => ⟨(there (hs x hx)).1, (there (hs x hx)).2.1⟩, fun x hx i hi => ⟨(there ((hra x hx).2 i hi)).1, (there ((hra x hx).2 i hi)).2.1⟩, ⟨(there h1).1, (there h1).2.1⟩, fun x hx e => ?_, fun x hx i hi => ?_, fun x hx y hy i hi => ?_, ⟨?_, (there h1).2.2, ?_⟩, fun x hx => ⟨(there (hs x hx)).2.2, fun i hi => (there ((hra x hx).2 i hi)).2.2⟩⟩⟩
  · have := (Same.keep (N := Emp) (s1.trans (s2.trans s3))).free nr
    exact this
  · -- the list of the steps is no step
    have hx1 := (hra x hx).1
    rw [← e, ht] at hx1
    have e2 : refs m.k sa = refs m.n (ra x) := by injection hx1 with z; injection z
    have l : m.k = m.n := by
      have := congrArg List.length e2
      rw [refs_len, refs_len] at this
      exact this
    have n0 : 0 < m.n := by omega
    have e3 : sa 0 = ra x 0 := by
      have h := congrArg (fun l => l[0]?) e2
      unfold refs at h
      simp only [List.getElem?_map, List.getElem?_range k0, List.getElem?_range n0] at h
      injection h with h
      injection h
    obtain ⟨ys, hys, _⟩ := At.lstR ((hra 0 k0).2 0 n0)
    exact rats_ne ((hra x hx).2 0 n0) (hra 0 k0).1 (by omega) hys e3
  · exact rats_ne ((hra x hx).2 i hi) ht k1 (hra 0 k0).1
  · obtain ⟨ys, hys, _⟩ := At.lstR ((hra y hy).2 0 (by omega))
    exact rats_ne ((hra x hx).2 i hi) (hra y hy).1 (by omega) hys
  · exact (ne_of_none (s3 _ _ hos) nr).symm
  · exact (ne_of_none hoe nr).symm
def spLls (C : Addr) : Sp := fun vs H Q _ => ∃ (N : Addr → Prop) (q : Addr) (m : Mc), vs = [.ref q] ∧ At C N H (.ref q) (partsD m) ∧ 1 ≤ m.k ∧ m.k ≤ 4 ∧ m.n ≤ 1000 ∧ ∀ (r rs rt re : Addr) (sa : Nat → Addr) (ra : Nat → Nat → Addr) (H' : Hp), Same H H' → Psd C H H' r rs rt re sa ra m → Q (.ref r) H'
section
variable {P : Program} {w : World} {K : PySem.W.Frag} {mg : Str → Option Value} {base : Heap}
theorem ok_lst {f fI C : Addr} {fd dI : FuncData} (F : Fun K "_law_list" "_law_list" sLList f fd) (TR : TxtR K mg C) (M : Mk K C fI) (GI : FnOk P w K mg base CX0 33 fI dI ["self", "top", "bottom"] (spInitB C)) (bI : Binds K dI ["self", "top", "bottom"] []) :
    FnOk P w K mg base CX0 35 f fd ["line"] (spLst C) := by
  refine F.ok scLst (fun vs H Q E h => ?_) (fun cdv A outer s H vs Q E hr h => ?_)
  · obtain ⟨N, q, k, u, rfl, _⟩ := h
    rfl
  · obtain ⟨N, q, k, u, rfl, hq, hk, kk⟩ := h
    have hr34 : Room 34 _ := hr
    obtain ⟨ys, hy, ly, ey⟩ := At.lstR hq
    have al := alc_al (H := H)
    refine ⟨_, pss_one (ps_ret (pe_lc (own := [("one", 1)]) (g := gName 1) (tt := tYes) rfl scLst.nd (pi_list (pv 0)) (blkOk_by (N := ["line", "one"]) (sc := (defScope sLList)) (by decide +kernel)) (fun _ _ _ _ _ => (pg_name (i := 1) scLst.nd rfl (.inl rfl))) (fun _ _ _ _ _ => pts_nil) (fun _ _ _ _ _ => (pe_make M GI hr34 rfl TR.mgC bI .nil pass0 (pa_cons (pe_ix (show IxR _ (rIxT K) from ix_tup) (pv 1) pe_int (fun _ _ => rfl)) (pa_cons (pe_ix (show IxR _ (rIxT K) from ix_tup) (pv 1) pe_int (fun _ _ => rfl)) pa_nil)))))), ?_⟩
    refine ⟨_, rfl, q, rfl, ⟨_, SqL.of hy⟩, fun D nD => ?_⟩
    have nND := al.fresh nD
    refine lc_it (walk_list (K := K) (a := q) (xs := ys)) (fun i G => Bld C Emp (Al H) H D (rng i fun i => .rat (u i)) G) (bld0 nD) (fun i G _ b => SqL.of (b.k.same _ _ hy)) ?_ ?_
    · rintro i x G1 G2 hi bd ⟨rfl, hx⟩
      rw [ly] at hi
      obtain ⟨y, hy1, hy2⟩ := ey i hi
      rw [hy1] at hx
      obtain rfl := Option.some.inj hx
      obtain ⟨a, rfl, ha, _⟩ := (hy2.same bd.k.same).pair
      have sa : SqT K G2 a [.int (u i).num, .int ((u i).den : Int)] := ha.t
      refine ⟨rfl, _, rfl, a, _, 0, _, rfl, rfl, sa, rfl, _, rfl, a, _, 1, _, rfl, rfl, sa, rfl, fun x dx nx nd _ => ?_⟩
      refine make4 (VM.den_ne (u i)) nx nd fun H4 s4 hR => ⟨rfl, ?_⟩
      have e : ((u i).num : Rat) = u i * (((u i).den : Int) : Rat) := RQ.nd (u i)
      obtain ⟨e1, e2⟩ := RQ.low (VM.den_ne (u i)) e
      rw [e1, e2] at hR
      obtain ⟨acc, h1, h2, h3⟩ := bd.step nD (Same.keep s4) (fun _ z => z.elim) id (.rat hR ((bd.alc al).fresh nx))
      refine ⟨acc, h1, by rw [h2, rng_len]; exact small1000 (by omega), ?_⟩
      rw [rng_succ]
      exact h3
    · rintro G1 bd
      rw [ly] at bd
      exact kk D G1 bd.k.same nD (bd.done nND)
theorem ok_lls {f fL C : Addr} {fd dL : FuncData} (F : Fun K "_law_lists" "_law_lists" sLLists f fd) (cLi : CalN P w K mg base "_law_list" 35 ["line"] (spLst C) fL dL) : FnOk P w K mg base CX0 36 f fd ["parts"] (spLls C) := by
  refine F.ok scLls (fun vs H Q E h => ?_) (fun cdv A outer s H vs Q E hr h => ?_)
  · obtain ⟨N, q, m, rfl, _⟩ := h
    rfl
  · obtain ⟨N, q, m, rfl, hq, k1, k4, n1, kk⟩ := h
    have hr35 : Room 35 _ := hr
    obtain ⟨a, b, c, hy, ha, hb, hc⟩ := hq.parts
    have al := alc_al (H := H)
    obtain ⟨ts, hts, lt, et⟩ := At.lstR hb
    refine ⟨_, pss_cons (ps_set (i := 1) scLls.nd rfl (.inl rfl) (pe_lst pa_nil))
      (pss_cons (ps_for PassesOwn.never rfl (pi_list (pe_ix ix_list (pv 0) pe_int (fun _ _ => rfl))) (pg_name (i := 2) scLls.nd rfl (.inl rfl))
        (pss_one (ps_expr (pe_bm PySem.F.plainAttrs_list PySem.F.slot_list_append PySem.F.type_list_append mt_append (pv 1) (pa_cons (pe_lc (own := [("line", 3)]) (g := gName 3) (tt := tYes) rfl scLls.nd (pi_list (pv 2)) (blkOk_by (N := ["parts", "steps", "step", "line"]) (sc := (defScope sLLists)) (by decide +kernel)) (fun _ _ _ _ _ => (pg_name (i := 3) scLls.nd rfl (.inl rfl))) (fun _ _ _ _ _ => pts_nil) (fun _ _ _ _ _ => (pe_call cLi.G hr35 rfl cLi.m cLi.kp cLi.b .nil pass0 (pa_cons (pv 3) pa_nil)))) pa_nil)))))
      (pss_one (ps_ret (pe_lst (pa_cons (pe_call cLi.G hr35 rfl cLi.m cLi.kp cLi.b .nil pass0 (pa_cons (pe_ix ix_list (pv 0) pe_int (fun _ _ => rfl)) pa_nil)) (pa_cons (pv 1) (pa_cons (pe_call cLi.G hr35 rfl cLi.m cLi.kp cLi.b .nil pass0 (pa_cons (pe_ix ix_list (pv 0) pe_int (fun _ _ => rfl)) pa_nil)) pa_nil))))))), ?_⟩
    refine ⟨(by show 0 ≤ sizeLine; decide), fun D nD => ?_⟩
    have nND := al.fresh nD
    have s0 : Same H (upd H D (.lst [])) := Same.upd nD
    refine ⟨_, rfl, q, _, 1, _, rfl, rfl, SqL.of (s0 _ _ hy), rfl, b, rfl, ⟨_, SqL.of (s0 _ _ hts)⟩, for_it (walk_list (K := K) (a := b) (xs := ts)) (fun i σ G => ∃ o2, σ = [some (.ref q), some (.ref D), o2, none] ∧ Bld C Emp (Al H) H D (rng i fun x => .lst (rng m.n fun i => ratsL m.n (m.t x i))) G) ⟨none, rfl, bld0 nD⟩ (fun i σ G _ h => by obtain ⟨_, _, bd⟩ := h; exact SqL.of (bd.k.same _ _ hts)) ?_ ?_⟩
    · rintro i x σ G1 G2 hi ⟨o2, rfl, bd⟩ ⟨rfl, hx⟩
      rw [lt] at hi
      obtain ⟨y, hy1, hy2⟩ := et i hi
      rw [hy1] at hx
      obtain rfl := Option.some.inj hx
      obtain ⟨st, rfl⟩ := hy2.lstV
      have hst := hy2.same bd.k.same
      obtain ⟨rs, hrs, lrs, ers⟩ := At.lstR hst
      have alG := bd.alc al
      obtain ⟨acc0, hacc0, _⟩ := bd.xs
      refine ⟨_, rfl, .inl ⟨rfl, _, SqL.of hacc0⟩, _, rfl, st, rfl, ⟨_, SqL.of hrs⟩, fun L nL => ?_⟩
      have nNL := alG.fresh nL
      refine lc_it (walk_list (K := K) (a := st) (xs := rs)) (fun j G => Bld C Emp (And1 (Al H) D) G2 L (rng j fun i' => ratsL m.n (m.t i i')) G) (bld0 nL) (fun j G _ b => SqL.of (b.k.same _ _ hrs)) ?_ ?_
      · rintro j y G3 G4 hj b2 ⟨rfl, hyj⟩
        rw [lrs] at hj
        obtain ⟨y', hy1', hy2'⟩ := ers j hj
        rw [hy1'] at hyj
        obtain rfl := Option.some.inj hyj
        obtain ⟨ln, rfl⟩ := hy2'.lstV
        refine ⟨rfl, _, rfl, N, ln, m.n, m.t i j, rfl, hy2'.same b2.k.same, n1, fun r G5 s5 nr hr5 => ?_⟩
        obtain ⟨acc, h1, h2, h3⟩ := b2.step nL (Same.keep s5) (fun _ z => z.elim) id (hr5.less fun b z => (b2.alc alG) b z)
        refine ⟨acc, h1, by rw [h2, rng_len]; exact small1000 (by omega), ?_⟩
        rw [rng_succ]
        exact h3
      · rintro G3 b2
        rw [lrs] at b2
        obtain ⟨acc, h1, h2, h3⟩ := bd.step nD b2.k (fun _ z => z.elim) id (b2.done nNL)
        refine ⟨D, acc, _, rfl, rfl, h1, by rw [h2, rng_len]; exact small1000 (by omega), _, rfl, ?_⟩
        rw [rng_succ]
        exact h3
    · rintro σ G1 ⟨o2, rfl, bd⟩
      rw [lt] at bd
      have s1 := bd.k.same
      refine ⟨_, rfl, q, _, 0, _, rfl, rfl, SqL.of (s1 _ _ hy), rfl, N, a, m.n, m.s, rfl, ha.same s1, n1, fun rs H2 s2 nrs h2 => ?_⟩
      have s12 := s1.trans s2
      refine ⟨_, rfl, _, rfl, q, _, 2, _, rfl, rfl, SqL.of (s12 _ _ hy), rfl, N, c, m.n, m.e, rfl, hc.same s12, n1, fun re H3 s3 nre h3 => ?_⟩
      refine ⟨(by show 3 ≤ sizeLine; decide), fun r nr => ?_⟩
      have s4 : Same H3 (upd H3 r (.lst [.ref rs, .ref D, .ref re])) := Same.upd nr
      obtain ⟨sa, ra, pd⟩ := psd_mk k1 s1 (bd.done nND) s2 h2 s3 h3 s4 nr upd_same
      exact kk r rs D re sa ra _ (s12.trans (s3.trans s4)) pd
end
end RX

set_option Elab.async false
set_option linter.all false
set_option maxRecDepth 100000
set_option maxHeartbeats 2000000
/-! Errors of the program: classes that take their __init__ from another one, objects and methods that may let one out.
What may be let out is told at the place of the call (PassesAt), since what the except suite wants depends on the slots. -/
namespace XR
open PySem PySem.Spec PyProof.Rows L2
section
variable {P : Program} {w : World} {K : PySem.W.Frag} {mg : Str → Option Value} {base : Heap}
/-- a def that lets nothing out keeps its promise whatever is wished of exceptions -/
theorem quiet {CX : CXT} {k : Nat} {f : Addr} {fd : FuncData} {ps : List Str} {sp : Sp} (F : FnOk P w K mg base CX0 k f fd ps sp) : FnOk P w K mg base CX k f fd ps sp := by
  refine ⟨F.len, fun A outer s H args us vs Q E room env bind rel told => codeAny_mono (F.run A outer s H args us vs Q E room env bind rel told) ?_⟩
  rintro (bad | flow) s' fin
  · exact (show False from fin).elim
  · exact match flow, fin with
    | .ret _, fin => fin
    | .next, fin => fin
    | .brk, fin => fin
    | .cont, fin => fin
/-- a def of the text that may let out exceptions without a context -/
theorem ok_out {x qual : Str} {st : Stmt} {f : Addr} {fd : FuncData} {N ps : List Str} {k : Nat} {sp : Sp} (F : Fun K x qual st f fd) (S : FnScope N ps (defScope st)) (len : ∀ vs H Q E, sp vs H Q E → vs.length = ps.length)
    (body : ∀ (cdv : Value) (A : Around) (outer : List Env) (s : Shared) (H : Hp) (vs : List V) (Q : VK) (E : XK), Room k (A.deeper (envOfC qual (defScope st) s.heap.objs.size f cdv)) → sp vs H Q E →
      ∃ t, PSs (cxOf (L2N.CX P w) P w K mg base N qual (defScope st) f cdv A outer s H E) (defBody st) t ∧ t { nx := fun _ H' => Q .non H', rt := Q } (start N vs) H) :
    FnOk P w K mg base (L2N.CX P w) (k + 1) f fd ps sp := by
  obtain ⟨_, _, _, _, _, _, cdv, _, _, rfl, look, code⟩ := F.ex
  refine fn_of look code S len ?_
  intro A outer s H vs Q E room told
  exact body cdv A outer s H vs Q E room told
end
section
variable {X : Cx} {CX : CXT} {n : Nat} {ini C : Addr} {fd : FuncData} {names : List Str} {pr : Sp} {low : List V} {lowV : List Value}
/-- C(args): what its __init__ lets out is taken here -/
theorem makeAt {W : XK} {q : List (Addr × Obj)} {st : L2.St} {hp : Hp} {now : Shared} {Kv : VK} {argV : List Value} {args : List V} (cls : Mk X.K C ini) (F : FnOk X.prog X.w X.K X.mg X.base CX n ini fd names pr) (room : Room (n + 1) X.A) (bind : Binds X.K fd names lowV)
    (lows : Vals low lowV) (out : PassesAt CX X st W) (I : Inv X q st hp now) (rel : Vals args argV)
    (told : ∀ o d, hp o = none → hp d = none → d ≠ o → pr (.ref o :: (args ++ low)) (upd (upd hp d (.own o)) o (.ins C d [])) (fun v h' => v = .non ∧ Kv (.ref o) h') W) :
    wpAny (model X.prog X.w) X.A (call (.ref C) argV) (EP X q st Kv) X.xe now := by
  have want := told (now.heap.objs.size + 1) now.heap.objs.size (I.hok.fresh (Nat.le_succ _)) (I.hok.fresh (Nat.le_refl _)) (Nat.ne_of_lt (Nat.lt_succ_self _))
  have J := Inv.made (C := C) I
  have rels : Vals (V.ref (now.heap.objs.size + 1) :: (args ++ low)) (Value.ref (now.heap.objs.size + 1) :: (argV ++ lowV)) := .cons rfl (rel.append lows)
  have size : ((Value.ref (now.heap.objs.size + 1) :: argV) ++ lowV).length = names.length := rels.length.symm.trans (F.len _ _ _ _ want)
  have bound := bind _ (Value.ref (now.heap.objs.size + 1) :: argV) J.kIn size
  have run := F.run _ X.stack _ _ ⟨Value.ref (now.heap.objs.size + 1) :: argV, []⟩ _ _ _ W (room.make C argV []) (J.env0.make C argV []) bound rels want
  refine wpAny_call (make_map (f := ini) I.kIn cls.makes cls.init (beq_iff_eq.mp cls.fn) (codeAny_mono run ?_))
  rintro (bad | flow) s' fin
  · exact out q _ _ bad s' J fin
  · exact match flow, fin with
    | .ret u, fin => by
      obtain ⟨v, h', J', rv, rfl, good⟩ := J.after fin
      exact ⟨rv, V.ref (now.heap.objs.size + 1), h', J', rfl, good⟩
    | .next, fin => False.elim fin
    | .brk, fin => False.elim fin
    | .cont, fin => False.elim fin
def tMakeS (C : Addr) (pr : Sp) (low : List V) (E : L2.St → XK) (t : TA) : TE := fun σ H Q => t σ H fun vs H1 => ∀ o d, H1 o = none → H1 d = none → d ≠ o → pr (.ref o :: (vs ++ low)) (upd (upd H1 d (.own o)) o (.ins C d [])) (fun v h' => v = .non ∧ Q (.ref o) h') (E σ)
variable {E : L2.St → XK} {x m : Str} {p pos apos : Pos} {e o : Expr} {es : List Expr} {t : TA} {ta : TE}
theorem pe_makeS (cls : Mk X.K C ini) (F : FnOk X.prog X.w X.K X.mg X.base CX n ini fd names pr) (room : Room (n + 1) X.A) (hg : Gl X x) (hm : X.mg x = some (.ref C)) (bind : Binds X.K fd names lowV) (lows : Vals low lowV) (out : ∀ σ, PassesAt CX X σ (E σ)) (ha : PA X (e :: es) t)
    (dbg : (x == ("__debug__" : Str)) = false := by decide) (st1 : starEach (e :: es) X.env = (false, eval e X.env) :: starEach es X.env := by rfl) (st2 : (backTo pos (starEach es X.env)).any (·.1) = false := by rfl) : PE X (.Call (.Name x p) (e :: es) [] pos) (tMakeS C pr low E t) :=
  ⟨fun pins s σ H Q I told => wpAny_Call_Name_kw (ld_glob I hg hm (PySem.W.callWith_K (h₀ := X.base) I.ok.mod.kin cls.kp (thn (ha.run pos pins s σ H _ I told) fun _ _ ⟨_, _, J, rel, want⟩ => ⟨J.kIn, makeAt cls F room bind lows (out σ) J rel want⟩) st1 st2) dbg)⟩
def tMethS (C : Addr) (m : Str) (pr : Sp) (low : List V) (E : L2.St → XK) (ta : TE) (t : TA) : TE := fun σ H Q => ta σ H fun v H1 => ∃ a d fs, v = .ref a ∧ H1 a = some (.ins C d fs) ∧ fs.lookup m = none ∧ t σ H1 fun vs H2 => pr (v :: (vs ++ low)) H2 Q (E σ)
/-- o.m(e, ..) where m may let something out -/
theorem pe_methS {pl : Sem Bool} (ho : PE X o ta) (c : Cls X.K C) (hm : Meth X.K C m ini) (F : FnOk X.prog X.w X.K X.mg X.base CX n ini fd names pr) (room : Room n X.A) (bind : Binds X.K fd names lowV) (lows : Vals low lowV) (out : ∀ σ, PassesAt CX X σ (E σ)) (ha : PA X (e :: es) t)
    (st1 : starEach (e :: es) X.env = (false, eval e X.env) :: starEach es X.env := by rfl) (st2 : (backTo pos (starEach es X.env)).any (·.1) = false := by rfl)
    (how : eval (.Call (.Attribute o m apos) (e :: es) [] pos) X.env = (do let ov ← eval o X.env; standAt apos.atName; let (f, first) ← holding [ov] (getMethod ov m pl); callWith pos f first (backTo pos (starEach (e :: es) X.env)) (backToKw pos (keywordEach [] X.env))) := by rfl) :
    PE X (.Call (.Attribute o m apos) (e :: es) [] pos) (tMethS C m pr low E ta t) := by
  constructor
  intro pins s σ H Q I told
  refine PySem.W.methodCall_KW (pl := pl) (thn (ho.run pins s σ H _ I told) ?_) how
  rintro u s1 ⟨v, H1, J, rv, a, d, fs, rfl, at_a, none_m, told⟩
  cases (show u = Value.ref a from rv)
  refine getmeth_ok J at_a c hm none_m (PySem.W.callWith_K (first := [.ref a]) (h₀ := X.base) I.ok.mod.kin hm.kp (thn (ha.run pos pins s1 σ H1 _ J told) ?_) st1 st2)
  rintro us s2 ⟨vs, H2, J2, rel, want⟩
  exact ⟨J2.kIn, run_fnSD (us := .ref a :: us) (vs := .ref a :: vs) F room bind lows (out σ) J2 (.cons rfl rel) want⟩
end
/-! ### C(..) of an own class of error over ValueError -/
section
variable {X : Cx} {CX : CXT} {n : Nat} {C ini : Addr} {fd : FuncData} {names : List Str} {pr : Sp} {low : List V} {lowV : List Value}
theorem errAt {q : List (Addr × Obj)} {st : L2.St} {hp : Hp} {now : Shared} {Kx : XK} {argV : List Value} {args : List V} (T : OexC X.K C) (find : PySem.W.findIn X.K (.ref C) "__init__" = some (some (.ref ini))) (isf : PySem.W.typeIn X.K (.ref ini) = some (.type "function"))
    (F : FnOk X.prog X.w X.K X.mg X.base CX n ini fd names pr) (room : Room (n + 1) X.A) (bind : Binds X.K fd names lowV) (lows : Vals low lowV) (none_out : Passes CX X (fun _ _ _ => False)) (I : Inv X q st hp now) (rel : Vals args argV) (few : args.length ≤ 1000)
    (told : ∀ a, hp a = none → pr (.ref a :: (args ++ low)) (upd hp a (exo a C none)) (fun v h' => v = .non ∧ ∃ (d : Addr) (fs : List (Str × V)), h' a = some (exo a C (some d)) ∧ h' d = some (exd d fs) ∧ hp d = none ∧ Kx (.ref C) (some d) (upd (del h' a) d (.xd fs))) (fun _ _ _ => False)) :
    wpAny (model X.prog X.w) X.A (call (.ref C) argV) (L2N.MkP X q st Kx) X.xe now := by
  obtain ⟨_, _, _, _, mro, _, _, _, _, _, _, _, _, _, _, cobj, mroOk⟩ := T.cls
  obtain ⟨hh, gs, dr, tk, os⟩ := now
  -- the argument tuple, then the error itself
  have above : hh.objs.size ≤ hh.objs.size + 1 := Nat.le_succ _
  have want := told (hh.objs.size + 1) (I.hok.fresh above)
  have grown : ∀ b u, hh.get? b = some u → ((hh.push (PySem.W.kdv_tup argV)).push (PySem.HandSPX.excO C hh.objs.size)).get? b = some u := fun b u z => Heap.get?_push_of_some _ (Heap.get?_push_of_some _ z)
  have there : ((hh.push (PySem.W.kdv_tup argV)).push (PySem.HandSPX.excO C hh.objs.size)).get? (hh.objs.size + 1) = some (PySem.HandSPX.excO C hh.objs.size) := by heap_get
  have J : Inv X q st (upd hp (hh.objs.size + 1) (exo (hh.objs.size + 1) C none)) ⟨(hh.push (PySem.W.kdv_tup argV)).push (PySem.HandSPX.excO C hh.objs.size), gs, dr, tk, os⟩ := I.laid grown above (exo_ok there)
  have rels : Vals (V.ref (hh.objs.size + 1) :: (args ++ low)) (Value.ref (hh.objs.size + 1) :: (argV ++ lowV)) := .cons rfl (rel.append lows)
  have size : ((Value.ref (hh.objs.size + 1) :: argV) ++ lowV).length = names.length := rels.length.symm.trans (F.len _ _ _ _ want)
  have short : argV.length ≤ sizeLine := by
    have := Paired.length rel
    have := sizeLine_eq
    omega
  have bound := bind _ (Value.ref (hh.objs.size + 1) :: argV) J.kIn size
  have run := F.run _ X.stack _ _ ⟨Value.ref (hh.objs.size + 1) :: argV, []⟩ _ _ _ (fun _ _ _ => False) (room.make C argV []) (J.env0.make C argV []) bound rels want
  refine wpAny_call (PySem.HandSPX.call_own PySem.F.excBase_ValueError (fun Y => PySem.HandSPX.refsVE_contains Y mro mroOk) (I.kIn _ _ cobj) (PySem.W.looks_findIn I.kIn find) (fun self => PySem.W.bind_fn I.kIn self isf) short (codeAny_mono run ?_))
  rintro (bad | flow) s' fin
  · exact none_out q st _ _ bad s' J fin
  · exact match flow, fin with
    | .ret u, fin => by
      obtain ⟨v, h', sameOs, bare, un, good, rv, rfl, d, fs, at_a, at_d, newd, out⟩ := fin
      obtain ⟨h2, g2, d2, t2, os2⟩ := s'
      obtain ⟨t0, G, JG, keepG, goneA, objA, noneA⟩ := mk_end0 (d2 := d2) (t2 := t2) I above grown un good sameOs bare at_a at_d newd
      refine ⟨rv, hh.objs.size + 1, _, _, ⟨G, g2, d2, t2, os2⟩, _, .ref C, some d, rfl, JG, keepG, goneA, objA, ⟨rfl, rfl, ?_⟩, rfl, rfl, noneA, rfl, bare, raises_own T.exC T.tyC, out⟩
      rintro _ ⟨⟩
      rfl
    | .next, fin => False.elim fin
    | .brk, fin => False.elim fin
    | .cont, fin => False.elim fin
variable {x : Str} {p pos : Pos} {e : Expr} {es : List Expr} {ta : TA}
/-- raise C(e, ..) -/
theorem pmk_err (T : OexC X.K C) (find : PySem.W.findIn X.K (.ref C) "__init__" = some (some (.ref ini))) (isf : PySem.W.typeIn X.K (.ref ini) = some (.type "function")) (F : FnOk X.prog X.w X.K X.mg X.base CX n ini fd names pr) (room : Room (n + 1) X.A) (bind : Binds X.K fd names lowV) (lows : Vals low lowV)
    (none_out : Passes CX X (fun _ _ _ => False)) (hg : Gl X x) (hm : X.mg x = some (.ref C)) (ha : PA X (e :: es) ta) (dbg : (x == ("__debug__" : Str)) = false := by decide) (st1 : starEach (e :: es) X.env = (false, eval e X.env) :: starEach es X.env := by rfl) (st2 : (backTo pos (starEach es X.env)).any (·.1) = false := by rfl) :
    L2N.PMk X (.Call (.Name x p) (e :: es) [] pos) (tMkO C pr low ta) := fun pins s σ H Q I told =>
  wpAny_Call_Name_kw (ld_glob I hg hm (PySem.W.callWith_K (h₀ := X.base) I.ok.mod.kin T.kC (thn (ha.run pos pins s σ H _ I told) fun _ _ ⟨_, _, J, rel, few, want⟩ => ⟨J.kIn, errAt T find isf F room bind lows none_out J rel few want⟩) st1 st2) dbg)
/-- raise C() -/
theorem pmk_err0 (T : OexC X.K C) (find : PySem.W.findIn X.K (.ref C) "__init__" = some (some (.ref ini))) (isf : PySem.W.typeIn X.K (.ref ini) = some (.type "function")) (F : FnOk X.prog X.w X.K X.mg X.base CX n ini fd names pr) (room : Room (n + 1) X.A) (bind : Binds X.K fd names lowV) (lows : Vals low lowV)
    (none_out : Passes CX X (fun _ _ _ => False)) (hg : Gl X x) (hm : X.mg x = some (.ref C)) (dbg : (x == ("__debug__" : Str)) = false := by decide) : L2N.PMk X (.Call (.Name x p) [] [] pos) (tMkO C pr low tNil) := fun pins s σ H Q I told =>
  wpAny_Call_Name_kw (ld_glob I hg hm (PySem.W.callWith_K0 I.kIn T.kC (errAt (argV := []) T find isf F room bind lows none_out I .nil told.1 told.2)) dbg)
end
end XR

set_option Elab.async false
set_option linter.all false
set_option maxRecDepth 100000
set_option maxHeartbeats 2000000
/-! Within an except suite: defs that are handed the caught error itself, isinstance of it. -/
namespace XH
open PySem PySem.Spec PyProof.Rows L2 L2H
/-- a promise that may speak of the error at hand (its place and its object) -/
abbrev SpP := Addr × Obj → Sp
structure FnP (P : Program) (w : World) (K : PySem.W.Frag) (mg : Str → Option Value) (base : Heap) (CX : CXT) (k : Nat) (f : Addr) (fd : FuncData) (ps : List Str) (sp : SpP) : Prop where
  fits : ∀ z vs H Q E, sp z vs H Q E → vs.length = ps.length
  goes : ∀ (z : Addr × Obj) (A : Around) (outer : List Env) (s : Shared) (H : Hp) (args : Args) (us : List Value) (vs : List V) (Q : VK) (E : XK), Hot1 A z → RoomH k A → PinOk outer H s z → Env0 P w K mg base A outer s H → BindsTo s fd args (ps.zip us) → Vals vs us →
    sp z vs H Q E → codeAny (model P w) A (.call (.ref f) args) (CR CX outer P w H s Q E) s
section
variable {P : Program} {w : World} {K : PySem.W.Frag} {mg : Str → Option Value} {base : Heap} {CX : CXT}
theorem ok_hot {x qual : Str} {st : Stmt} {f : Addr} {fd : FuncData} {N ps : List Str} {k : Nat} {sp : SpP} (F : Fun K x qual st f fd) (S : FnScope N ps (defScope st)) (fits : ∀ z vs H Q E, sp z vs H Q E → vs.length = ps.length)
    (body : ∀ (cdv : Value) (z : Addr × Obj) (A : Around) (outer : List Env) (s : Shared) (H : Hp) (vs : List V) (Q : VK) (E : XK), Hot1 A z → RoomH k (A.deeper (envOfC qual (defScope st) s.heap.objs.size f cdv)) → sp z vs H Q E →
      ∃ t, PSs (cxH CX P w K mg base N qual (defScope st) f cdv A outer s H E z) (defBody st) t ∧ t { nx := fun _ H' => Q .non H', rt := Q } (L2.start N vs) H) : FnP P w K mg base CX (k + 1) f fd ps sp := by
  obtain ⟨_, _, _, _, _, _, cdv, _, _, rfl, look, code⟩ := F.ex
  refine ⟨fits, ?_⟩
  intro z A outer s H args us vs Q E hot room pin env bind rel told
  have stays := fun b u (q : base.get? b = some u) => (env.bs b u q).1
  have kin : K.In s.heap := env.mod.kin.keeps stays
  refine codeAny_call_function room.depth (kin _ _ look) rfl S.co S.gen rfl (PySem.W.codeRec_of kin code) (bind _ _ _ _ (wpAny_newFunctionEnv_cells S.kind ?_ ?_))
  · rintro ⟨n, v⟩ mem
    rcases S.par n (List.of_mem_zip mem).1 with q | q
    · exact Or.inl q
    · exact Or.inr ⟨q, PySem.W.cellsFrom_some _ _ _ (Or.inl q)⟩
  · rintro _ rfl s1 laid
    refine ⟨(env.mod.nolimit.keeps stays).keeps laid.toInCall.keep, codeAny_func ?_⟩
    obtain ⟨t, reads, told'⟩ := body cdv z A outer s H vs Q E hot (room.deeper _) told
    have I := inv_startH (CX := CX) (P := P) (w := w) (mg := mg) (base := base) (E := E) S pin env (fits _ _ _ _ _ told) rel laid
    refine wpAny_mono (reads.run [] s1 (L2.start N vs) H _ I told') ?_ fun _ _ z => z
    intro flow s' fin
    exact match flow, fin with
      | .ret _, ⟨v, _, H', J, rv, q⟩ => ⟨v, H', J.os, J.bare, J.base, J.hok, rv, q⟩
      | .next, ⟨_, H', J, q⟩ => ⟨V.non, H', J.os, J.bare, J.base, J.hok, rfl, q⟩
      | .brk, ⟨_, _, _, q⟩ => False.elim q
      | .cont, ⟨_, _, _, q⟩ => False.elim q
end
section
variable {X : Cx} {CX : CXT} {k : Nat} {f : Addr} {fd : FuncData} {ps : List Str} {sp : SpP} {E : L2.St → XK} {x : Str} {q pos : Pos} {e : Expr} {es : List Expr} {t : TA} {z : Addr × Obj}
theorem pe_callP (F : FnP X.prog X.w X.K X.mg X.base CX k f fd ps sp) (room : RoomH k X.A) (hot : Hot1 X.A z) (mem : z ∈ X.pn) (hg : Gl X x) (hm : X.mg x = some (.ref f)) (hk : PySem.W.keepIn X.K (.ref f) = true) (bind : Binds X.K fd ps []) (out : ∀ σ, PassesAt CX X σ (E σ)) (ha : PA X (e :: es) t)
    (dbg : (x == ("__debug__" : Str)) = false := by decide) (st1 : starEach (e :: es) X.env = (false, eval e X.env) :: starEach es X.env := by rfl) (st2 : (backTo pos (starEach es X.env)).any (·.1) = false := by rfl) : PE X (.Call (.Name x q) (e :: es) [] pos) (tCallS (sp z) E t) := by
  constructor
  intro pins s σ H Q I told
  refine wpAny_Call_Name_kw (ld_glob I hg hm (PySem.W.callWith_K (h₀ := X.base) I.ok.mod.kin hk (thn (ha.run pos pins s σ H _ I told) ?_) st1 st2) dbg)
  rintro us s1 ⟨vs, H1, J, rel, want⟩
  refine ⟨J.kIn, ?_⟩
  have size : us.length = ps.length := rel.length.symm.trans (F.fits _ _ _ _ _ want)
  have bound : BindsTo s1 fd ⟨us, []⟩ (ps.zip us) := by
    have b := bind s1 us J.kIn (by rw [List.append_nil]; exact size)
    rw [List.append_nil] at b
    exact b
  obtain ⟨g1, g2, g3, g4, g5⟩ := J.pin z (List.mem_append_left _ mem)
  have pin : PinOk X.stack H1 s1 z := ⟨g1, g2, fun hm => (List.mem_cons.mp (J.stkSub z.1 hm)).elim g3 g4, g5⟩
  refine wpAny_call (codeAny_mono (F.goes z X.A X.stack s1 H1 ⟨us, []⟩ us vs Q (E σ) hot room pin J.env0 bound rel want) ?_)
  rintro (bad | flow) s' fin
  · exact out σ pins H1 s1 bad s' J fin
  · exact match flow, fin with
    | .ret _, fin => J.after fin
    | .next, fin => False.elim fin
    | .brk, fin => False.elim fin
    | .cont, fin => False.elim fin
end
/-! ### isinstance of the error at hand -/
structure ErrC (K : PySem.W.Frag) (D : Addr) : Prop where
  known : (PySem.W.clsIn K D).isSome = true
  ga : PySem.W.findIn K (.ref D) "__getattribute__" = some (some (.builtin "BaseException.__getattribute__"))
  gt : PySem.W.findIn K (.ref D) "__getattr__" = some none
  sub : PySem.W.subIn K (.ref D) (.type "BaseException") = some true
  cl : PySem.W.findIn K (.ref D) "__class__" = some (some (.builtin "object.__class__"))
  get : PySem.W.specialIn K (.builtin "object.__class__") "__get__" = some (some (.builtin "getset_descriptor.__get__"))
  tak : PySem.W.takesIn K (.builtin "object.__class__") = some true
  mro : PySem.W.mroIn K D (.type "object") = some true
/-- isinstance(e, c): the error stands at z, its fields at dd -/
def rIsP (K : PySem.W.Frag) (D : Addr) (z : Addr × Obj) : List V → Hp → VK → Prop := fun xs H Q => ∃ (c : V) (cv : Value) (b : Bool) (dd : Addr) (fs : List (Str × V)), xs = [.ref z.1, c] ∧ (∀ u, RelV c u → u = cv) ∧ PySem.W.kitOne K (.ref D) cv = some b ∧ z.2.dict = some dd ∧ H dd = some (.xd fs) ∧ Q (.bl b) H
theorem call_isP {X : Cx} {z : Addr × Obj} {D : Addr} (mem : z ∈ X.pn) (C : ErrC X.K D) (cls : z.2.cls = .ref D) (flds : ∃ vs, z.2.data = .fields vs) : CallR X (.builtin "isinstance") (rIsP X.K D z) := by
  rintro pins s σ H xs us Q I rel ⟨c, cv, b, dd, fs, rfl, only, kit, hd, at_d, q⟩
  obtain ⟨vs, data⟩ := flds
  obtain ⟨u1, eus, rc⟩ : ∃ r1, us = [Value.ref z.1, r1] ∧ RelV c r1 := by
    cases rel with
    | cons a as =>
      cases as with
      | cons b bs =>
        cases bs
        cases (show _ = Value.ref z.1 from a)
        exact ⟨_, rfl, b⟩
  subst eus
  cases only _ rc
  have held : s.heap.get? z.1 = some z.2 := (I.pin z (List.mem_append_left _ mem)).1
  obtain ⟨mA, names, _⟩ : ObjOk X.prog X.w H s.heap dd (.xd fs) := I.hok dd _ at_d
  obtain ⟨od, obj, _⟩ := lookIn_ns names
  have inst : PySem.W.InstAt s.heap z.1 z.2 D (some od) := by
    refine ⟨held, cls, ?_, ?_⟩
    · unfold PySem.W.notCls
      rw [data] <;> rfl
    · rw [hd]
      exact obj
  refine PySem.W.kia_one (PySem.W.kitx_exc C.known C.ga C.gt C.sub C.cl C.get C.tak C.mro) I.kIn inst kit (fun y => nomatch y) ?_
  intro tk
  exact ⟨.bl b, H, I.kept (t' := tk) fun _ _ y => y, rfl, q⟩
end XH

set_option Elab.async false
set_option linter.all false
set_option maxRecDepth 100000
set_option maxHeartbeats 2000000
/-! A comprehension (without a test) while an error is handled: its block keeps the error pinned. -/
namespace XH
open PySem PySem.Spec PyProof.Rows L2 L2H
/-- in the block of a comprehension the error at hand stands as it stood -/
theorem pin_block {X : Cx} {z : Addr × Obj} {s3 s' : Shared} {H3 H' : Hp} {scope : Scope} {ce : Env} {fp : List Addr} {σ σ' : L2.St} {pins : List (Addr × Obj)} (mem : z ∈ X.pn) (I3 : Inv X pins σ H3 s3) (loc : ce.locals = s3.heap.objs.size) (apart : ∀ b ∈ fp, z.1 ≠ b)
    (I : Inv (X.blk s3 H3 scope ce fp) [] σ' H' s') : Inv ((X.blk s3 H3 scope ce fp).tr [z] fun _ _ => False) [] σ' H' s' := by
  obtain ⟨g1, g2, g3, g4, g5⟩ := I3.pin z (List.mem_append_left _ mem)
  have outside : z.1 ∉ frs X.stack := fun hm => (List.mem_cons.mp (I3.stkSub z.1 hm)).elim g3 g4
  have inside : z.1 ∉ fp := fun hm => apart _ hm rfl
  have J : Inv (X.blk s3 H3 scope ce fp) [z] σ' H' s' := I.pins_of (by
    intro y hy
    cases List.mem_singleton.mp hy
    refine ⟨I.base.keep _ _ g1 g2 outside inside, I.base.free _ _ g1 g2 inside, fun e => ?_, outside, g5⟩
    have lt := Heap.lt_size g1
    rw [show z.1 = s3.heap.objs.size from e.trans loc] at lt
    exact Nat.lt_irrefl _ lt)
  exact J.toTry _
theorem unpin_block {X : Cx} {z : Addr × Obj} {s3 s' : Shared} {H3 H' : Hp} {scope : Scope} {ce : Env} {fp : List Addr} {σ' : L2.St} (ok : (X.blk s3 H3 scope ce fp).Ok) (J : Inv ((X.blk s3 H3 scope ce fp).tr [z] fun _ _ => False) [] σ' H' s') : Inv (X.blk s3 H3 scope ce fp) [] σ' H' s' :=
  (Inv.ofTry (pins := [z]) J ok).pins_of fun y hy => nomatch hy
theorem pe_lcHot {X : Cx} {z : Addr × Obj} {elt tg iter : Expr} {scope : Scope} {own : List (Str × Nat)} {pos : Pos} {wi : TI} {g : TG} {te : TE} (hot : Hot1 X.A z) (mem : z ∈ X.pn) (nd : X.N.Nodup) (hi : PIH X tg iter wi) (ok : BlkOk X.N X.env.scope scope own)
    (hg : ∀ (s : Shared) (H : Hp) (C : Addr) (cl : List (Str × Addr)) (fp : List Addr), PG (X.blk s H scope (compEnvC scope cl C X.env) fp) tg g) (he : ∀ (s : Shared) (H : Hp) (C : Addr) (cl : List (Str × Addr)) (fp : List Addr), PE (X.blk s H scope (compEnvC scope cl C X.env) fp) elt te)
    (fold : ∀ x, foldedSetIterable iter X.env x = pure x := by intro _; rfl) : PE X (.ListComp elt [⟨tg, iter, [], 0⟩] scope pos) (tLc wi g tYes te (own.map (·.2))) := by
  constructor
  intro pins s σ H Q I told
  rw [eval_ListComp]
  refine wpAny_comprehension_free (use := none) rfl fold (closure_ok ?_) ok.kind (fun y hy e => (ok.uniq y hy).trans (congrArg some e)) (thn (hi.run pins s σ H _ I told) fun _ _ h1 => thn h1 ?_)
  · intro y hy e
    exact (ok.free y hy e).elim (fun k => I.ok.has _ (Or.inl k)) fun k => I.ok.has _ (Or.inr k)
  rintro itv s2 ⟨it, fp, tn, J, H2, rfl, I2, T, start, apart, want⟩
  refine wpAny_newObj_type (newEnv_comp ?_) (show 0 ≤ sizeLine by decide)
  obtain ⟨W, ⟨m0, w0⟩, turn⟩ := want s2.heap.objs.size (I2.hok.fresh (Nat.le_refl _))
  -- the new list
  obtain ⟨s3, es3⟩ : ∃ s3 : Shared, s3 = { s2 with heap := s2.heap.push { cls := .type "list", data := .seq ([] : List Value).toArray } } := ⟨_, rfl⟩
  obtain ⟨H3, eH3⟩ : ∃ H3 : Hp, H3 = upd H2 s2.heap.objs.size (.lst []) := ⟨_, rfl⟩
  have keeps3 : ∀ b o, s2.heap.get? b = some o → s3.heap.get? b = some o := fun b o e => by
    rw [es3]
    exact Heap.get?_push_of_some _ e
  have I3 : Inv X pins σ H3 s3 := by
    rw [es3, eH3]
    exact I2.laid (t' := s2.toks) (fun b o e => Heap.get?_push_of_some _ e) (Nat.le_refl _) ⟨Nat.zero_le _, [], 0, .nil, Heap.get?_push_size _ rfl⟩
  rw [← eH3] at w0
  have size3 : s3.heap.objs.size = s2.heap.objs.size + 1 := by rw [es3]; exact Heap.size_push ..
  have small : ∀ b ∈ fp, b < s2.heap.objs.size := fun b hb => by
    obtain ⟨o, e, _⟩ := T.obj _ _ start b hb
    exact Heap.lt_size e
  have apart3 : ∀ b ∈ fp, FpOk X pins H3 b ∧ b < s3.heap.objs.size := fun b hb => by
    have lt := small b hb
    refine ⟨⟨?_, (apart b hb).2⟩, by rw [size3]; exact Nat.lt_succ_of_lt lt⟩
    rw [eH3, upd_ne (Nat.ne_of_lt lt)]
    exact (apart b hb).1
  have zap : ∀ b ∈ fp, z.1 ≠ b := fun b hb => (apart3 b hb).1.2.2.2.2.2 z (List.mem_append_left _ mem)
  have start3 : tn 0 s3.heap := T.keep _ _ _ start fun b _ o e => keeps3 b o e
  have I4 := block_start I3 ok nd apart3
  rw [← es3]
  have pg := hg s3 H3 s3.heap.objs.size (cellsFrom (s3.heap.objs.size + 1) scope.names (cloFrom X.env.cells scope.names [])) fp
  have pe := he s3 H3 s3.heap.objs.size (cellsFrom (s3.heap.objs.size + 1) scope.names (cloFrom X.env.cells scope.names [])) fp
  show codeAny _ _ (.compStart (.ListComp elt [⟨tg, iter, [], 0⟩] scope pos) 0 (.ref it) (.ref s2.heap.objs.size) (compEnvC scope (cellsFrom (s3.heap.objs.size + 1) scope.names (cloFrom X.env.cells scope.names [])) s3.heap.objs.size X.env))
    (compPost (model X.prog X.w) X.A X.xe none (EP X pins σ Q) (.ref s2.heap.objs.size) s3.heap.objs.size) { s3 with heap := pushCells (s3.heap.push { cls := .type "dict", data := .dict #[] }) scope.names }
  have cL : (compEnvC scope (cellsFrom (s3.heap.objs.size + 1) scope.names (cloFrom X.env.cells scope.names [])) s3.heap.objs.size X.env).locals = s3.heap.objs.size := rfl
  generalize compEnvC scope (cellsFrom (s3.heap.objs.size + 1) scope.names (cloFrom X.env.cells scope.names [])) s3.heap.objs.size X.env = ce at I4 pg pe cL ⊢
  obtain ⟨s4, es4⟩ : ∃ s4 : Shared, s4 = { s3 with heap := pushCells (s3.heap.push { cls := .type "dict", data := .dict #[] }) scope.names } := ⟨_, rfl⟩
  have start4 : tn 0 s4.heap := T.keep _ _ _ start3 fun b _ o e => by
    rw [es4]
    exact pushCells_keeps _ _ _ _ (Heap.get?_push_of_some _ e)
  rw [← es4] at I4 ⊢
  have unseen : ∀ b ∈ fp, H3 b = none := fun b hb => (apart3 b hb).1.1
  have far : ∀ {σ' : L2.St} {H' : Hp} {s' : Shared}, Inv (X.blk s3 H3 scope ce fp) [] σ' H' s' → (∀ b ∈ fp, H' b = none) → ∀ b ∈ fp, FpOk (X.blk s3 H3 scope ce fp) [] H' b := fun {σ' H' s'} J none_ b hb =>
    ⟨none_ b hb, (J.ok.exf b hb).1, J.ok.exfs b hb, Or.inl hb, fun y c e => (J.ok.exf b hb).2 y c e, fun y hy => nomatch hy⟩
  have farZ : ∀ {σ' : L2.St} {H' : Hp} {s' : Shared}, Inv (X.blk s3 H3 scope ce fp) [] σ' H' s' → (∀ b ∈ fp, H' b = none) → ∀ b ∈ fp, FpOk ((X.blk s3 H3 scope ce fp).tr [z] fun _ _ => False) [] H' b := fun {σ' H' s'} J none_ b hb => by
    obtain ⟨c1, c2, c3, c4, c5, _⟩ := far J none_ b hb
    refine ⟨c1, c2, c3, c4, c5, ?_⟩
    intro y hy
    cases List.mem_singleton.mp (show y ∈ [z] from hy)
    exact zap b hb
  have hotZ : HotC ((X.blk s3 H3 scope ce fp).tr [z] fun _ _ => False) := ⟨z, hot, List.mem_singleton.mpr rfl⟩
  have loop : codeAny (model X.prog X.w) X.A (.compLoop (.ListComp elt [⟨tg, iter, [], 0⟩] scope pos) 0 (.ref it) (.ref s2.heap.objs.size) ce) (compPost (model X.prog X.w) X.A X.xe none (EP X pins σ Q) (.ref s2.heap.objs.size) s3.heap.objs.size) s4 := by
    refine compLoop_any (fun n s' => ∃ i H', Inv (X.blk s3 H3 scope ce fp) [] (wipe σ (own.map (·.2))) H' s' ∧ tn i s'.heap ∧ (∀ b ∈ fp, H' b = none) ∧ W i n H') ?_ m0 ⟨0, H3, I4, start4, unseen, w0⟩
    rintro n s5 ⟨i, H5, I5, t5, n5, w5⟩
    rcases turn i n H5 w5 with ⟨stop, fin⟩ | ⟨go, Nx, reach, step⟩
    · refine thnF (T.done ((X.blk s3 H3 scope ce fp).tr [z] fun _ _ => False) rfl rfl rfl hotZ i [] s5 _ H5 (fun _ _ => False) (pin_block mem I3 cL zap I5) (farZ I5 n5) t5 stop) ?_
      rintro _ s6 ⟨rfl, J6⟩
      have I6 := unpin_block I5.ok J6
      have back : Inv X pins σ H5 s6 := I3.call' (ch := fp) I6.os I6.base I6.hok I6.bare fun b hb =>
        let c := (apart3 b hb).1.2
        ⟨c.2.2.1, c.1, c.2.2.2.1, c.2.2.2.2⟩
      have gone : H5 s3.heap.objs.size = none := by
        have e : H5 ce.locals = none := I6.free
        rw [cL] at e
        exact e
      obtain ⟨m, names, _⟩ := I6.loc
      obtain ⟨c0, c1, _, c3, c4, c5⟩ := I3.fpOk (H' := H5) (Nat.le_refl _) gone
      refine ⟨m, ?_, fun h' same => ⟨.ref s2.heap.objs.size, H5, back.turned (t' := s6.toks) (fun b o nb e => (same.2 b nb).trans e) c0 c1 c3 c4 c5, rfl, fin⟩⟩
      rw [← cL]
      exact names
    · refine thnF (T.item ((X.blk s3 H3 scope ce fp).tr [z] fun _ _ => False) rfl rfl rfl hotZ i [] s5 _ H5 (fun _ _ => False) (pin_block mem I3 cL zap I5) (farZ I5 n5) t5 go) ?_
      rintro _ s6 ⟨u, rfl, more⟩
      refine thnF more ?_
      rintro _ s7 ⟨x, H7, J7, r7, y7, t7, n7⟩
      have I7 := unpin_block I5.ok J7
      refine thnF (pg.run _ s7 _ H7 x u _ (I7.pinned (far I7 n7) (T.obj _ _ t7)) r7 (step x H7 y7)) ?_
      rintro _ s8 ⟨σ8, H8, I8, slots, q8⟩
      refine thnF ((show PTs (X.blk s3 H3 scope ce fp) [] tYes from pts_nil).run _ s8 σ8 H8 _ I8 q8) ?_
      rintro b s9 ⟨H9, I9, q9⟩
      have close : ∀ {s' : Shared} {H' : Hp}, Inv (X.blk s3 H3 scope ce fp) ([] ++ pinsAt fp s7.heap) σ8 H' s' → Nx H' → ∃ m, m < n ∧ ∃ i H', Inv (X.blk s3 H3 scope ce fp) [] (wipe σ (own.map (·.2))) H' s' ∧ tn i s'.heap ∧ (∀ b ∈ fp, H' b = none) ∧ W i m H' := fun {s' H'} J nx => by
        obtain ⟨m', lt, w'⟩ := reach H' nx
        have held : ∀ b ∈ fp, ∀ o, s7.heap.get? b = some o → s'.heap.get? b = some o ∧ H' b = none := fun b hb o e => by
          have y := J.pin (b, o) (List.mem_append_right _ (List.mem_append_right _ (mem_pinsAt hb e)))
          exact ⟨y.1, y.2.1⟩
        refine ⟨m', lt, i + 1, H', (J.unpinned (pins := [])).weak ?_ ?_, T.keep _ _ _ t7 fun b hb o e => (held b hb o e).1, fun b hb => ?_, w'⟩
        · rw [← slots, wipe_length]
        · intro j v e
          rw [← slots] at e
          exact (wipe_some e).1
        · obtain ⟨o, e, _⟩ := T.obj _ _ t7 b hb
          exact (held b hb o e).2
      cases b with
      | false => exact close I9 q9
      | true =>
        refine thnF (pe.run _ s9 σ8 H9 _ I9 q9) ?_
        rintro y s10 ⟨yv, H10, I10, r10, acc, hD, room, nx⟩
        exact app_ok (X := X.blk s3 H3 scope ce fp) I10 hD room r10 fun s11 I11 => close I11 nx
  exact codeAny_compStart_list loop (T.self X.A 0 _ _ _ start4 loop)
end XH

set_option Elab.async false
set_option linter.all false
set_option maxRecDepth 100000
set_option maxHeartbeats 4000000
/-! An own class of error called by a keyword; a field of an error that was made as a value. -/
namespace PySem
namespace XKw
open PySem.HandSPX Builtin Builtin.ObjectAttr
section
variable {M : Model} {prog : Program} {w : World} {A : Around} {E : Value → Shared → Prop} {R : Result → Shared → Prop} {h : Heap} {g : Array GenState} {d : Drawn} {t : Nat} {os : OsState} {kw : List (Str × Value)}
variable {nm q : Str} {C N : Addr} {bs bm bmB : List Value} {hdct : Bool} {sn : List Str} {sub : List Value} {ab : Bool} {col : Option Bool} {dd : Option Addr} {k0 k1 k2 k3 k5 : Option Value} {B newId initId : String}
theorem check_kw (FB : ExcBaseFacts B newId initId bmB) (same : ∀ Y : String, bm.contains (.type Y) = bmB.contains (.type Y)) {rest : List Value} {Q : Unit → Shared → Prop} (obj : h.get? C = some (excClassObj nm q C N bs bm hdct sn sub ab col dd k0 k1 k2 k3 k5 newId))
    (then_ : Q () ⟨h, g, d, t, os⟩) : wpAny M A (checkBuiltinCall newId ⟨.ref C :: rest, kw⟩) Q E ⟨h, g, d, t, os⟩ := by
  have hasB : (Value.ref C :: bm).contains (.type B) = true := by rw [List.contains_cons, same, FB.hasB, Bool.or_true]
  have star := FB.noStar
  simp only [checkBuiltinCall, FB.newKind, FB.newSplit, FB.newRow]
  repeat (first
    | refine wpAny_loadPart_at obj ?_
    | (refine wpAny_isSubtype_exc obj ?_; rw [hasB])
    | refine wpAny_staticBase_exc obj ?_
    | refine wpAny_madeBy_exc obj ?_
    | simp only [bne_self_eq_false, Bool.false_eq_true, if_false]
    | wp_step)
  exact then_
theorem new_kw (FB : ExcBaseFacts B newId initId bmB) (same : ∀ Y : String, bm.contains (.type Y) = bmB.contains (.type Y)) {rest : List Value} (obj : h.get? C = some (excClassObj nm q C N bs bm hdct sn sub ab col dd k0 k1 k2 k3 k5 newId)) (few : rest.length ≤ sizeLine)
    (then_ : R (.ok (.ret (.ref (h.objs.size + 1)))) ⟨(h.push (W.kdv_tup rest)).push (excO C h.objs.size), g, d, t, os⟩) : codeAny (model prog w) A (.builtin newId ⟨.ref C :: rest, kw⟩) R ⟨h, g, d, t, os⟩ := by
  have ends := FB.ends
  have inB : (Value.ref C :: bm).contains (.type B) = true := by rw [List.contains_cons, same, FB.hasB, Bool.or_true]
  have notA : (Value.ref C :: bm).contains (.type "AttributeError") = false := by rw [List.contains_cons, same, FB.noAttr]; rfl
  have notN : (Value.ref C :: bm).contains (.type "NameError") = false := by rw [List.contains_cons, same, FB.noName]; rfl
  refine codeAny_builtinAt FB.entry ?_
  unfold Builtin.«BaseException.__new__»
  refine wpAt_bind (show wpAt _ _ _ (stack >>= _) _ _ _ from wpAt_bind (wpAt_stack fun _ _ => wpAt_of_wpAny ?_))
  wp_walk
  refine wpAt_of_wpAny ?_
  rw [FB.owner]
  repeat (first
    | with_reducible refine wpAny_madeHere_exc FB.canon obj ?_
    | with_reducible refine wpAny_loadPart_at obj ?_
    | (with_reducible refine wpAny_isSubtype_exc obj ?_; first | rw [inB] | rw [notA] | rw [notN])
    | wp_step)
  have e : (h.push (W.kdv_tup rest)).objs.size = h.objs.size + 1 := Heap.size_push ..
  show R _ _
  rw [Heap.size_push]
  exact then_
/-- C(.., name=value): the error is laid, then its __init__ runs with the same arguments -/
theorem made_kw (FB : ExcBaseFacts B newId initId bmB) (same : ∀ Y : String, bm.contains (.type Y) = bmB.contains (.type Y)) {rest : List Value} {ini : Addr} {Q : Fin → Shared → Prop} (obj : h.get? C = some (excClassObj nm q C N bs bm hdct sn sub ab col dd k0 k1 k2 k3 k5 newId))
    (finds : W.Looks (model prog w) h (typeLookup (.ref C) "__init__") (some (.ref ini))) (binds : ∀ self, W.Looks (model prog w) h (bindSpecial (.ref ini) self) (.ref ini, [self])) (few : rest.length ≤ sizeLine)
    (then_ : codeAny (model prog w) A (.call (.ref ini) ⟨.ref (h.objs.size + 1) :: rest, kw⟩) (fun r s' => match r with | .ok (.ret v) => v = .none ∧ Q (.done (.ret (.ref (h.objs.size + 1)))) s' | .ok _ => False | .error e => E e s') ⟨(h.push (W.kdv_tup rest)).push (excO C h.objs.size), g, d, t, os⟩) :
    wpAny (model prog w) A (Builtin.«type.__call__» ⟨.ref C :: rest, kw⟩) Q E ⟨h, g, d, t, os⟩ := by
  repeat (first
    | with_reducible refine wpAny_loadPart_at obj ?_
    | with_reducible refine wpAny_madeBy_exc obj ?_
    | wp_step)
  refine codeAny_call_builtin_code (Code.quiet_builtin _ FB.quiet) (check_kw FB same obj (new_kw FB same obj few ?_))
  show wpAny _ _ _ _ _ _
  have on : ∀ b o, h.get? b = some o → ((h.push (W.kdv_tup rest)).push (excO C h.objs.size)).get? b = some o := fun b o e => Heap.get?_push_of_some _ (Heap.get?_push_of_some _ e)
  have obj2 := on _ _ obj
  have laid : ((h.push (W.kdv_tup rest)).push (excO C h.objs.size)).get? (h.objs.size + 1) = some (excO C h.objs.size) := by heap_get
  have own : (Value.ref C :: bm).contains (.ref C) = true := by simp
  have finds2 := finds.keeps on
  have binds2 := (binds (.ref (h.objs.size + 1))).keeps on
  unfold isInstance
  repeat (first
    | with_reducible refine wpAny_loadPart_at laid ?_
    | (with_reducible refine wpAny_isSubtype_exc obj2 ?_; rw [own])
    | wp_step)
  show wpAny _ _ (typeLookup (.ref C) _) _ _ _
  refine finds2.at (wpAny_holding (wpAny_bind (binds2.at (wpAny_bind (wpAny_call (codeAny_mono then_ ?_))))))
  rintro (bad | (v | _ | _ | _)) s' fin
  · exact fin
  · exact fin.elim
  · exact fin.elim
  · exact fin.elim
  · obtain ⟨rfl, fin⟩ := fin
    first
      | exact wpAny_pure (wpAny_pure fin)
      | (wp_walk; exact fin)
theorem check_call (obj : h.get? C = some (excClassObj nm q C N bs bm hdct sn sub ab col dd k0 k1 k2 k3 k5 newId)) {rest : List Value} {Q : Unit → Shared → Prop} (then_ : Q () ⟨h, g, d, t, os⟩) : wpAny M A (checkBuiltinCall "type.__call__" ⟨.ref C :: rest, kw⟩) Q E ⟨h, g, d, t, os⟩ := by
  have sub := tc_sub
  have isType : (⟨h, g, d, t, os⟩ : Shared).TypeIs (.ref C) "type" := ⟨_, obj, rfl⟩
  simp only [checkBuiltinCall, tc_kind, tc_split]
  repeat (any_goals (first
    | assumption
    | with_reducible refine wpAny_loadPart_at obj ?_
    | with_reducible refine wpAny_onRaise ?_
    | with_reducible refine wpAny_map ?_
    | wp_step))
theorem call_kw (FB : ExcBaseFacts B newId initId bmB) (same : ∀ Y : String, bm.contains (.type Y) = bmB.contains (.type Y)) {rest : List Value} {ini : Addr} (obj : h.get? C = some (excClassObj nm q C N bs bm hdct sn sub ab col dd k0 k1 k2 k3 k5 newId))
    (finds : W.Looks (model prog w) h (typeLookup (.ref C) "__init__") (some (.ref ini))) (binds : ∀ self, W.Looks (model prog w) h (bindSpecial (.ref ini) self) (.ref ini, [self])) (few : rest.length ≤ sizeLine)
    (then_ : codeAny (model prog w) (A.under (.builtin "type.__call__" ⟨.ref C :: rest, kw⟩)) (.call (.ref ini) ⟨.ref (h.objs.size + 1) :: rest, kw⟩) (W.InitBack (h.objs.size + 1) R) ⟨(h.push (W.kdv_tup rest)).push (excO C h.objs.size), g, d, t, os⟩) :
    codeAny (model prog w) A (.call (.ref C) ⟨rest, kw⟩) R ⟨h, g, d, t, os⟩ := by
  have tl := tc_lookup
  have tb := tc_bind (.ref C)
  have isType : (⟨h, g, d, t, os⟩ : Shared).TypeIs (.ref C) "type" := ⟨_, obj, rfl⟩
  refine codeAny_of_tree (show wpAny _ _ (callAny (.ref C) _) _ _ _ from ?_)
  repeat (any_goals (first
    | assumption
    | with_reducible refine wpAny_loadPart_at obj ?_
    | wp_step))
  refine ⟨rfl, codeAny_call_builtin_at (Code.quiet_builtin _ (by decide +kernel)) entry_typeCall (check_call obj (made_kw FB same obj finds binds few (codeAny_mono then_ ?_)))⟩
  rintro (bad | (v | _ | _ | _)) s' fin <;> exact fin
end
end XKw
end PySem
namespace XR
open PySem PySem.Spec PyProof.Rows L2
section
variable {X : Cx} {CX : CXT} {n : Nat} {C ini : Addr} {fd : FuncData} {names ks : List Str} {pr : Sp} {gf : List Value → List Value → List Value} {gV : List V → List V → List V}
def tErrK (C : Addr) (pr : Sp) (gV : List V → List V → List V) (m : Nat) (tk : TA) : L2.St → Hp → XK → Prop := fun σ H Kx => tk σ H fun zs H1 => zs.length = m ∧ ∀ a, H1 a = none → pr (gV [.ref a] zs) (upd H1 a (exo a C none))
  (fun v h' => v = .non ∧ ∃ (d : Addr) (fs : List (Str × V)), h' a = some (exo a C (some d)) ∧ h' d = some (exd d fs) ∧ H1 d = none ∧ Kx (.ref C) (some d) (upd (del h' a) d (.xd fs))) (fun _ _ _ => False)
/-- raise C(name=e, ..) -/
theorem pmk_errK {x : Str} {p pos : Pos} {kws : List Keyword} {tk : TA} (T : OexC X.K C) (find : PySem.W.findIn X.K (.ref C) "__init__" = some (some (.ref ini))) (isf : PySem.W.typeIn X.K (.ref ini) = some (.type "function")) (F : FnOk X.prog X.w X.K X.mg X.base CX n ini fd names pr) (room : Room (n + 1) X.A)
    (bind : KBn X.K fd names 1 ks gf gV) (none_out : Passes CX X (fun _ _ _ => False)) (hg : Gl X x) (hm : X.mg x = some (.ref C)) (hkw : PK X kws tk) (all : (backToKw pos (keywordEach kws X.env)).all (·.1.isSome) = true := by rfl) (eks : (backToKw pos (keywordEach kws X.env)).filterMap (·.1) = ks := by rfl)
    (dbg : (x == ("__debug__" : Str)) = false := by decide) (st2 : ((backTo pos (starEach [] X.env)).any (·.1) || (backToKw pos (keywordEach kws X.env)).any (·.1.isNone)) = false := by rfl) :
    L2N.PMk X (.Call (.Name x p) [] kws pos) (tErrK C pr gV ks.length tk) := by
  intro pins s σ H Kx I told
  refine wpAny_Call_Name_kw (ld_glob I hg hm (PySem.W.callWith_KW0 (h₀ := X.base) I.ok.mod.kin T.kC all (thn (hkw.run pos pins s σ H _ I told) ?_) st2) dbg)
  rintro ws s1 ⟨zs, H1, J1, rel, len, told⟩
  refine ⟨J1.kIn, ?_⟩
  rw [eks]
  obtain ⟨_, _, _, _, mro, _, _, _, _, _, _, _, _, _, _, cobj, mroOk⟩ := T.cls
  obtain ⟨hh, gs, dr, tk, os⟩ := s1
  have above : hh.objs.size ≤ hh.objs.size + 1 := Nat.le_succ _
  have want := told (hh.objs.size + 1) (J1.hok.fresh above)
  have grown : ∀ b u, hh.get? b = some u → ((hh.push (PySem.W.kdv_tup [])).push (PySem.HandSPX.excO C hh.objs.size)).get? b = some u := fun b u z => Heap.get?_push_of_some _ (Heap.get?_push_of_some _ z)
  have there : ((hh.push (PySem.W.kdv_tup [])).push (PySem.HandSPX.excO C hh.objs.size)).get? (hh.objs.size + 1) = some (PySem.HandSPX.excO C hh.objs.size) := by heap_get
  have J : Inv X pins σ (upd H1 (hh.objs.size + 1) (exo (hh.objs.size + 1) C none)) ⟨(hh.push (PySem.W.kdv_tup [])).push (PySem.HandSPX.excO C hh.objs.size), gs, dr, tk, os⟩ := J1.laid grown above (exo_ok there)
  have self : Vals [V.ref (hh.objs.size + 1)] [Value.ref (hh.objs.size + 1)] := .cons rfl .nil
  have bound := bind.to ⟨(hh.push (PySem.W.kdv_tup [])).push (PySem.HandSPX.excO C hh.objs.size), gs, dr, tk, os⟩ [Value.ref (hh.objs.size + 1)] ws J.kIn rfl (rel.length.symm.trans len)
  have run := F.run _ X.stack _ _ ⟨[Value.ref (hh.objs.size + 1)], ks.zip ws⟩ _ _ _ (fun _ _ _ => False) (room.make C [] (ks.zip ws)) (J.env0.make C [] (ks.zip ws)) bound (bind.rel self rel) want
  refine wpAny_call (PySem.XKw.call_kw PySem.F.excBase_ValueError (fun Y => PySem.HandSPX.refsVE_contains Y mro mroOk) (J1.kIn _ _ cobj) (PySem.W.looks_findIn J1.kIn find) (fun self => PySem.W.bind_fn J1.kIn self isf) (Nat.zero_le _) (codeAny_mono run ?_))
  rintro (bad | flow) s' fin
  · exact none_out pins σ _ _ bad s' J fin
  · exact match flow, fin with
    | .ret u, fin => by
      obtain ⟨v, h', sameOs, bare, un, good, rv, rfl, d, fs, at_a, at_d, newd, out⟩ := fin
      obtain ⟨h2, g2, d2, t2, os2⟩ := s'
      obtain ⟨t0, G, JG, keepG, goneA, objA, noneA⟩ := mk_end0 (d2 := d2) (t2 := t2) J1 above grown un good sameOs bare at_a at_d newd
      refine ⟨rv, hh.objs.size + 1, _, _, ⟨G, g2, d2, t2, os2⟩, _, .ref C, some d, rfl, JG, keepG, goneA, objA, ⟨rfl, rfl, ?_⟩, rfl, rfl, noneA, rfl, bare, raises_own T.exC T.tyC, out⟩
      rintro _ ⟨⟩
      rfl
    | .next, fin => False.elim fin
    | .brk, fin => False.elim fin
    | .cont, fin => False.elim fin
end
/-- a field of an error that was made here and is not kept -/
def tErrF (C : Addr) (fld : Str) (t : L2.St → Hp → XK → Prop) : TE := fun σ H Q => t σ H fun cls d H' => cls = .ref C ∧ ∃ (dd : Addr) (fs : List (Str × V)) (v : V), d = some dd ∧ H' dd = some (.xd fs) ∧ fs.lookup fld = some v ∧ Q v H'
theorem pe_errF {X : Cx} {C : Addr} {e : Expr} {t : L2.St → Hp → XK → Prop} {pos : Pos} {fld : Str} (mk : L2N.PMk X e t) (T : XfC X.K C) (free : PySem.W.findIn X.K (.ref C) fld = some none) (hb : attributeBase e fld X.env (eval e X.env) = eval e X.env := by rfl) :
    PE X (.Attribute e fld pos) (tErrF C fld t) := by
  constructor
  intro pins s σ H Q I told
  refine attr_of hb (thn (mk pins s σ H _ I told) ?_)
  rintro u s1 ⟨a, oe, vs, sI, H', cls, d, rfl, J, keeps, newA, obj, hz, data, h1, noneA, sameOs, bare, raises, rfl, dd, fs, v, rfl, at_d, look, q⟩
  have J1 : Inv X pins σ H' s1 := by
    have K1 := J.call' (ch := []) (s' := s1) (H' := H') sameOs (Un.kept keeps) (J.hok.kept keeps) bare (fun _ y => nomatch y)
    exact K1
  obtain ⟨mA, names, rels⟩ : ObjOk X.prog X.w H' s1.heap dd (.xd fs) := J1.hok dd _ at_d
  obtain ⟨od, dobj, find⟩ := lookIn_ns names
  obtain ⟨w, hw, rw⟩ := RelO.some_of (v := v) (o := mA fld) (by rw [← look]; exact rels fld)
  have inst : PySem.W.InstAt s1.heap a oe C (some od) := ⟨obj, hz.1, by unfold PySem.W.notCls; rw [data] <;> rfl, by rw [hz.2.1]; exact dobj⟩
  exact PySem.HandSPX.exc_get J1.kIn inst T.ga T.gg T.exC (PySem.W.findObj_own T.hdC free rfl (by rw [find, hw])) (handed_of rw) ⟨v, H', J1.tok _, rw, q⟩
end XR

set_option Elab.async false
set_option linter.all false
set_option maxRecDepth 100000
/-! Own classes of errors: one base over ValueError, the others right above the base. -/
namespace XE
open PySem PySem.Spec PyProof.Rows L2
def four : List Value := [.type "ValueError", .type "Exception", .type "BaseException", .type "object"]
/-- the class C stands written, its chain is C :: bm -/
def Line (K : PySem.W.Frag) (C : Addr) (bm : List Value) : Prop := ∃ nm q N bs sn sub ab col dd k0 k1 k2 k3 k5, K.lookup C = some (excClassObj nm q C N bs bm true sn sub ab col dd k0 k1 k2 k3 k5 "ValueError.__new__")
section
variable {K : PySem.W.Frag} {C B : Addr} {bm : List Value}
theorem Line.cls (l : Line K C bm) : (PySem.W.clsIn K C).isSome = true := by
  obtain ⟨_, _, _, _, _, _, _, _, _, _, _, _, _, _, e⟩ := l
  unfold PySem.W.clsIn
  rw [e]
  rfl
theorem Line.sub (l : Line K C bm) (x : Value) : PySem.W.subIn K (.ref C) x = some ((Value.ref C :: bm).contains x) := by
  obtain ⟨_, _, _, _, _, _, _, _, _, _, _, _, _, _, e⟩ := l
  show PySem.W.mroIn K C x = _
  unfold PySem.W.mroIn PySem.W.clsIn
  rw [e]
  rfl
theorem Line.ty (l : Line K C bm) : PySem.W.typeIn K (.ref C) = some (.type "type") := by
  obtain ⟨_, _, _, _, _, _, _, _, _, _, _, _, _, _, e⟩ := l
  show Option.map (fun x => x.cls) (List.lookup C K) = _
  rw [e]
  rfl
theorem Line.kit (l : Line K B bm) {t : Value} {b : Bool} (s : PySem.W.subIn K t (.ref B) = some b) : PySem.W.kitCls K t (.ref B) = some b := by
  unfold PySem.W.kitCls
  have h : ((PySem.W.clsIn K B).isSome && PySem.W.typeIn K (.ref B) == some (.type "type")) = true := by
    rw [l.cls, l.ty]
    simp
  simp only [h, if_true, s]
theorem Line.one (l : Line K B bm) {t : Value} {b : Bool} (s : PySem.W.subIn K t (.ref B) = some b) (ne : b = false → t ≠ .ref B) : PySem.W.kitOne K t (.ref B) = some b := by
  unfold PySem.W.kitOne
  by_cases e : (t == .ref B) = true
  · rw [if_pos e]
    cases b with
    | true => rfl
    | false => exact absurd (beq_iff_eq.mp e) (ne rfl)
  · rw [if_neg e]
    exact l.kit s
theorem Line.exm (l : Line K B bm) {t : Value} {b : Bool} (s : PySem.W.subIn K t (.ref B) = some b) (ex : PySem.W.subIn K (.ref B) (.type "BaseException") = some true) : PySem.W.exmOne K t (.ref B) = some b := by
  unfold PySem.W.exmOne
  rw [if_pos (by rw [ex]; simp)]
  exact l.kit s
end
/-- the chains of the errors D 0 .. D 9 and of their base D 10 -/
def chain (D : Nat → Addr) (i : Nat) : List Value := if i = 10 then four else .ref (D 10) :: four
section
variable {D : Nat → Addr} {i j : Nat}
theorem chain_ty {T : String} (h : Value.type T ∈ four) : (Value.ref (D i) :: chain D i).contains (.type T) = true := by
  rw [List.contains_iff_mem]
  refine List.mem_cons_of_mem _ ?_
  unfold chain
  split
  · exact h
  · exact List.mem_cons_of_mem _ h
theorem no_ref {a : Addr} : ¬ Value.ref a ∈ four := by
  intro h
  unfold four at h
  simp at h
theorem chain_base (hi : i ≤ 10) : (Value.ref (D i) :: chain D i).contains (.ref (D 10)) = true := by
  rw [List.contains_iff_mem]
  by_cases e : i = 10
  · subst e
    exact List.mem_cons_self
  · unfold chain
    rw [if_neg e]
    exact List.mem_cons_of_mem _ List.mem_cons_self
theorem chain_ref (inj : ∀ i j, i ≤ 10 → j ≤ 10 → D i = D j → i = j) (hi : i ≤ 10) (hj : j ≤ 9) : (Value.ref (D i) :: chain D i).contains (.ref (D j)) = decide (i = j) := by
  by_cases e : i = j
  · subst e
    rw [decide_eq_true rfl, List.contains_iff_mem]
    exact List.mem_cons_self
  · rw [decide_eq_false e, Bool.eq_false_iff]
    intro h
    rw [List.contains_iff_mem] at h
    rcases List.mem_cons.mp h with h | h
    · injection h with h
      exact e (inj j i (by omega) hi h).symm
    · unfold chain at h
      split at h
      · exact no_ref h
      · rcases List.mem_cons.mp h with h | h
        · injection h with h
          have := inj j 10 (by omega) (Nat.le_refl _) h
          omega
        · exact no_ref h
theorem chain_ve : PySem.HandSPX.refsVE (chain D i) = true := by
  unfold chain
  split
  · show PySem.HandSPX.refsVE four = true
    decide +kernel
  · show PySem.HandSPX.refsVE four = true
    decide +kernel
end
theorem upto10 {p : Nat → Prop} (h0 : p 0) (h1 : p 1) (h2 : p 2) (h3 : p 3) (h4 : p 4) (h5 : p 5) (h6 : p 6) (h7 : p 7) (h8 : p 8) (h9 : p 9) (h10 : p 10) : ∀ i, i ≤ 10 → p i
  | 0, _ => h0 | 1, _ => h1 | 2, _ => h2 | 3, _ => h3 | 4, _ => h4 | 5, _ => h5 | 6, _ => h6 | 7, _ => h7 | 8, _ => h8 | 9, _ => h9 | 10, _ => h10
  | n + 11, h => absurd h (by omega)
end XE

set_option Elab.async false
set_option maxRecDepth 100000
namespace RX
open PySem L2
/-! ### errors -/
abbrev sWi : Stmt := inClass (topS 3) 0
def spW (K : PySem.W.Frag) : Sp := fun vs H Q _ => ∃ (a C : Addr) (v : V), vs = [.ref a, v] ∧ OexC K C ∧ PySem.W.findIn K (.ref C) "what" = some none ∧ H a = some (exo a C none) ∧ ∀ dx, H dx = none → dx ≠ a → Q .non (upd (upd H dx (exd dx [("what", v)])) a (exo a C (some dx)))
/-- the names of the law's errors: D 0 to D 9, and their base D 10 -/
structure Errs (K : PySem.W.Frag) (mg : Str → Option Value) (fW : Addr) (D : Nat → Addr) : Prop where
  oex : ∀ i, i ≤ 10 → OexC K (D i)
  ini : ∀ i, i ≤ 10 → PySem.W.findIn K (.ref (D i)) "__init__" = some (some (.ref fW))
  no : ∀ i, i ≤ 10 → PySem.W.findIn K (.ref (D i)) "what" = some none
  fn : PySem.W.typeIn K (.ref fW) = some (.type "function")
  xf : ∀ i, i ≤ 10 → XfC K (D i)
  cl : ∀ i, i ≤ 10 → XH.ErrC K (D i)
  kit : ∀ i j, i ≤ 10 → j ≤ 9 → PySem.W.kitOne K (.ref (D i)) (.ref (D j)) = some (decide (i = j))
  kitV : ∀ i, i ≤ 10 → PySem.W.kitOne K (.ref (D i)) (.type "ValueError") = some true
  kitW : ∀ i, i ≤ 10 → PySem.W.kitOne K (.ref (D i)) (.ref (D 10)) = some true
  exm : ∀ i, i ≤ 10 → PySem.W.exmOne K (.ref (D i)) (.ref (D 10)) = some true
  exm6 : PySem.W.exmOne K (.ref (D 6)) (.ref (D 6)) = some true
  m0 : mg "BadNumber" = some (.ref (D 0))
  m1 : mg "BadMachine" = some (.ref (D 1))
  m2 : mg "BadWord" = some (.ref (D 2))
  m3 : mg "BadStar" = some (.ref (D 3))
  m4 : mg "BadText" = some (.ref (D 4))
  m5 : mg "BadPaper" = some (.ref (D 5))
  m6 : mg "BadDeed" = some (.ref (D 6))
  m7 : mg "TooMany" = some (.ref (D 7))
  m8 : mg "Unknown" = some (.ref (D 8))
  m9 : mg "Taken" = some (.ref (D 9))
  m10 : mg "WordError" = some (.ref (D 10))
/-- what is left when an error with v in it flies -/
structure Flies (H : Hp) (v : V) (dd : Addr) (H' : Hp) : Prop where
  s : Same H H'
  n : H dd = none
  x : H' dd = some (.xd [("what", v)])
section
variable {P : Program} {w : World} {K : PySem.W.Frag} {mg : Str → Option Value} {base : Heap}
theorem scWErr : FnScope ["self", "what"] ["self", "what"] (defScope sWi) := ⟨rfl, rfl, rfl, by decide +kernel, rfl, by decide +kernel, by decide +kernel⟩
theorem ok_W {f : Addr} {fd : FuncData} (F : FunD K "__init__" "WordError.__init__" (defArgs sWi) (defBody sWi) (defScope sWi) [.non] [] f fd) : FnOk P w K mg base CX0 1 f fd ["self", "what"] (spW K) := by
  refine F.ok scWErr (fun vs H Q E h => ?_) (fun cdv A outer s H vs Q E hr h => ?_)
  · obtain ⟨a, C, v, rfl, _⟩ := h
    rfl
  · obtain ⟨a, C, v, rfl, T, no, ha, kk⟩ := h
    refine ⟨_, pss_one (ps_ost (pv 0) (pv 1)), ?_⟩
    exact ⟨_, rfl, _, rfl, a, C, rfl, T, no, .inl ⟨ha, kk⟩⟩
theorem raise_in {C : Addr} {H : Hp} {v : V} {W : XK} {E : XK} (T : OexC K C) (no : PySem.W.findIn K (.ref C) "what" = some none) (told : ∀ dd H', Flies H v dd H' → W (.ref C) (some dd) H') :
    ∀ a, H a = none → spW K [.ref a, v] (upd H a (exo a C none)) (fun u h' => u = .non ∧ ∃ (d : Addr) (fs : List (Str × V)), h' a = some (exo a C (some d)) ∧ h' d = some (exd d fs) ∧ H d = none ∧ W (.ref C) (some d) (upd (del h' a) d (.xd fs))) E := by
  intro a na
  refine ⟨a, C, v, rfl, T, no, upd_same, fun dx ndx ne => ⟨rfl, dx, [("what", v)], upd_same, by rw [upd_ne ne, upd_same], ?_, ?_⟩⟩
  · rw [upd_ne ne] at ndx
    exact ndx
  · rw [upd_ne ne] at ndx
    refine told dx _ ⟨fun b o e => ?_, ndx, upd_same⟩
    have b1 : b ≠ a := ne_of_none e na
    have b2 : b ≠ dx := ne_of_none e ndx
    rw [upd_ne b2, del_ne b1, upd_ne b1, upd_ne b2, upd_ne b1]
    exact e
end
section
open L2H XH XE
theorem inj_of {l : List Addr} (nd : l.Nodup) (hl : l.length = 11) : ∀ i j, i ≤ 10 → j ≤ 10 → l.getD i 0 = l.getD j 0 → i = j := by
  intro i j hi hj e
  have h1 : i < l.length := by omega
  have h2 : j < l.length := by omega
  rw [List.getD_eq_getElem?_getD, List.getD_eq_getElem?_getD, List.getElem?_eq_getElem h1, List.getElem?_eq_getElem h2] at e
  have e : l[i] = l[j] := e
  have pw := List.pairwise_iff_getElem.mp nd
  rcases Nat.lt_trichotomy i j with z | z | z
  · exact absurd e (pw i j h1 h2 z)
  · exact z
  · exact absurd e.symm (pw j i h2 h1 z)
theorem errs_of {K : PySem.W.Frag} {mg : Str → Option Value} {fW : Addr} {D : Nat → Addr} (inj : ∀ i j, i ≤ 10 → j ≤ 10 → D i = D j → i = j) (line : ∀ i, i ≤ 10 → Line K (D i) (chain D i)) (sa : ∀ i, i ≤ 10 → PySem.W.findIn K (.ref (D i)) "__setattr__" = some (some (.builtin "object.__setattr__")))
    (kC : ∀ i, i ≤ 10 → PySem.W.keepIn K (.ref (D i)) = true) (ini : ∀ i, i ≤ 10 → PySem.W.findIn K (.ref (D i)) "__init__" = some (some (.ref fW))) (no : ∀ i, i ≤ 10 → PySem.W.findIn K (.ref (D i)) "what" = some none) (fn : PySem.W.typeIn K (.ref fW) = some (.type "function"))
    (ga : ∀ i, i ≤ 10 → PySem.W.findIn K (.ref (D i)) "__getattribute__" = some (some (.builtin "BaseException.__getattribute__"))) (gg : ∀ i, i ≤ 10 → PySem.W.findIn K (.ref (D i)) "__getattr__" = some none) (hd : ∀ i, i ≤ 10 → PySem.W.hasDictIn K (D i) = true)
    (cl : ∀ i, i ≤ 10 → PySem.W.findIn K (.ref (D i)) "__class__" = some (some (.builtin "object.__class__"))) (xn : PySem.W.specialIn K (.builtin "object.__class__") "__get__" = some (some (.builtin "getset_descriptor.__get__"))) (xt : PySem.W.takesIn K (.builtin "object.__class__") = some true)
    (m0 : mg "BadNumber" = some (.ref (D 0))) (m1 : mg "BadMachine" = some (.ref (D 1))) (m2 : mg "BadWord" = some (.ref (D 2))) (m3 : mg "BadStar" = some (.ref (D 3))) (m4 : mg "BadText" = some (.ref (D 4))) (m5 : mg "BadPaper" = some (.ref (D 5))) (m6 : mg "BadDeed" = some (.ref (D 6))) (m7 : mg "TooMany" = some (.ref (D 7)))
    (m8 : mg "Unknown" = some (.ref (D 8))) (m9 : mg "Taken" = some (.ref (D 9))) (m10 : mg "WordError" = some (.ref (D 10))) : Errs K mg fW D := by
  have sT : ∀ i, i ≤ 10 → ∀ {T : String}, Value.type T ∈ four → PySem.W.subIn K (.ref (D i)) (.type T) = some true := fun i hi T h => by rw [(line i hi).sub, chain_ty h]
  have sB : ∀ i, i ≤ 10 → PySem.W.subIn K (.ref (D i)) (.type "BaseException") = some true := fun i hi => sT i hi (by decide)
  have sW : ∀ i, i ≤ 10 → PySem.W.subIn K (.ref (D i)) (.ref (D 10)) = some true := fun i hi => by rw [(line i hi).sub, chain_base hi]
  have sR : ∀ i j, i ≤ 10 → j ≤ 9 → PySem.W.subIn K (.ref (D i)) (.ref (D j)) = some (decide (i = j)) := fun i j hi hj => by rw [(line i hi).sub, chain_ref inj hi hj]
  exact {
    oex := fun i hi => by
      obtain ⟨nm, q, N, bs, sn, sub, ab, col, dd, k0, k1, k2, k3, k5, e⟩ := line i hi
      exact ⟨⟨nm, q, N, bs, _, sn, sub, ab, col, dd, k0, k1, k2, k3, k5, e, chain_ve⟩, sa i hi, sB i hi, (line i hi).ty, kC i hi⟩
    ini := ini, no := no, fn := fn
    xf := fun i hi => ⟨ga i hi, gg i hi, sB i hi, hd i hi⟩
    cl := fun i hi => ⟨(line i hi).cls, ga i hi, gg i hi, sB i hi, cl i hi, xn, xt, sT i hi (by decide)⟩
    kit := fun i j hi hj => (line j (by omega)).one (sR i j hi hj) fun z e => by
      injection e with e
      exact absurd (inj i j hi (by omega) e) (of_decide_eq_false z)
    kitV := fun i hi => by
      unfold PySem.W.kitOne
      rw [if_neg (by intro z; cases beq_iff_eq.mp z)]
      unfold PySem.W.kitCls
      have h : PySem.W.kitMeta "ValueError" = true := by decide +kernel
      show (if PySem.W.kitMeta "ValueError" = true then PySem.W.subIn K (.ref (D i)) (.type "ValueError") else none) = some true
      rw [if_pos h]
      exact sT i hi (by decide)
    kitW := fun i hi => (line 10 (Nat.le_refl _)).one (sW i hi) (fun z => nomatch z)
    exm := fun i hi => (line 10 (Nat.le_refl _)).exm (sW i hi) (sB 10 (Nat.le_refl _))
    exm6 := (line 6 (by decide)).exm (by rw [sR 6 6 (by decide) (by decide)]; rfl) (sB 6 (by decide))
    m0 := m0, m1 := m1, m2 := m2, m3 := m3, m4 := m4, m5 := m5, m6 := m6, m7 := m7, m8 := m8, m9 := m9, m10 := m10 }
end
end RX

set_option Elab.async false
set_option maxRecDepth 100000
namespace RX
open PySem L2 L2H XH
abbrev sMarks : Stmt := topS 51
abbrev sDue : Stmt := topS 52
def marksV (i : Nat) : List V := (List.range 10).map (fun j => V.bl (decide (i = j))) ++ [.bl true, .bl true]
def marksD (i : Nat) : List PyData := (List.range 10).map (fun j => PyData.bool (decide (i = j))) ++ [.bool true, .bool true]
/-- the error at hand is a D i, with these fields -/
structure HotIs (D : Nat → Addr) (z : Addr × Obj) (i : Nat) (dd : Addr) : Prop where
  le : i ≤ 10
  cls : z.2.cls = .ref (D i)
  dat : ∃ ws, z.2.data = .fields ws
  dic : z.2.dict = some dd
def spMarks (D : Nat → Addr) : SpP := fun z vs H Q _ => ∃ (i : Nat) (dd : Addr) (fs : List (Str × V)), vs = [.ref z.1] ∧ HotIs D z i dd ∧ H dd = some (.xd fs) ∧ ∀ (r : Addr) (H' : Hp), Same H H' → H r = none → H' r = some (.lst (marksV i)) → Q (.ref r) H'
def spDue : SpP := fun _ vs H Q _ => ∃ i : Nat, vs = [.int (i : Int)] ∧ ∀ (r : Addr) (H' : Hp), Same H H' → H r = none → H' r = some (.lst (marksV i)) → Q (.ref r) H'
section
variable {P : Program} {w : World} {K : PySem.W.Frag} {mg : Str → Option Value} {base : Heap}
theorem scMk : FnScope ["e", "one", "two", "more"] ["e"] (defScope sMarks) := ⟨rfl, rfl, rfl, by decide +kernel, rfl, by decide +kernel, by decide +kernel⟩
theorem scDu : FnScope ["k", "place"] ["k"] (defScope sDue) := ⟨rfl, rfl, rfl, by decide +kernel, rfl, by decide +kernel, by decide +kernel⟩
theorem ok_due {f : Addr} {fd : FuncData} (F : Fun K "_law_due_marks" "_law_due_marks" sDue f fd) (T : TxtL mg) : FnP P w K mg base CX0 1 f fd ["k"] spDue := by
  refine ok_hot F scDu (fun z vs H Q E h => ?_) (fun cdv z A outer s H vs Q E hot hr h => ?_)
  · obtain ⟨i, rfl, _⟩ := h
    rfl
  · obtain ⟨i, rfl, k⟩ := h
    refine ⟨_, pss_one (ps_ret (pe_op op_cat (pe_lcHot (z := z) (own := [("place", 1)]) (g := gName 1) hot (List.mem_singleton.mpr rfl) scDu.nd (pi_range1H (by rfl) T.range (pa_cons pe_int pa_nil)) (blkOk_by (N := ["k", "place"]) (sc := defScope sDue) (by decide +kernel))
        (fun _ _ _ _ _ => pg_name (i := 1) scDu.nd rfl (Or.inl rfl)) (fun _ _ _ _ _ => pe_cmpR op_eq (pv 1) (pv 0) (nomark _)))
      (pe_lst (pa_cons pe_bl (pa_cons pe_bl pa_nil))))), ?_⟩
    refine ⟨_, rfl, by decide, by decide, fun D nD => ?_⟩
    refine lc_range (lo := 0) (n := 10) (fun i' H2 => Same H H2 ∧ H2 D = some (.lst (((List.range 10).take i').map (fun j => V.bl (decide (i = j)))))) ⟨Same.upd nD, upd_same⟩ ?_ ?_
    · rintro i' H2 hi ⟨s2, hD⟩
      refine ⟨rfl, ?_⟩
      have eqb : decide (V.int (0 + (i' : Int)) = V.int (i : Int)) = decide (i = i') := by
        by_cases e : i = i'
        · subst e
          rw [decide_eq_true rfl, decide_eq_true (by rw [Int.zero_add])]
        · rw [decide_eq_false e, decide_eq_false (fun z => e (by injection z with z; omega))]
      refine ⟨_, rfl, _, rfl, ?_⟩
      refine ⟨rfl, _, hD, ?_, ?_⟩
      · rw [List.length_map, List.length_take]
        exact Nat.lt_of_le_of_lt (Nat.min_le_left _ _) (small1000 (by omega))
      · refine ⟨fun b o e => ?_, ?_⟩
        · rw [upd_ne (ne_of_none e nD)]
          exact s2 _ _ e
        · have hr10 : (List.range 10)[i']? = some i' := by
            rw [List.getElem?_range hi]
          rw [upd_same, List.take_add_one, hr10, List.map_append]
          show some (HO.lst (_ ++ [V.bl (decide (V.int (0 + (i' : Int)) = V.int (i : Int)))])) = _
          rw [eqb]
          rfl
    · rintro H2 ⟨s2, hD⟩
      refine ⟨(by show 2 ≤ sizeLine; decide), fun r nr => ?_⟩
      have nrD : D ≠ r := ne_of_none hD nr
      refine ⟨D, r, _, _, rfl, rfl, by rw [upd_ne nrD]; exact hD, upd_same, ?_, fun p np => ?_⟩
      · exact Nat.le_of_lt (small1000 (by rw [List.length_map, List.length_take, List.length_range]; decide))
      · refine k p _ ((s2.trans (Same.upd nr)).trans (Same.upd np)) ((s2.trans (Same.upd nr)).free np) ?_
        rw [upd_same]
        rfl
theorem only_ref {a : Addr} : ∀ u, RelV (.ref a) u → u = .ref a := fun _ r => r
theorem only_ty {t : String} : ∀ u, RelV (.ty t) u → u = .type t := fun _ r => r
theorem ok_marks {f fW : Addr} {fd : FuncData} {D : Nat → Addr} (F : Fun K "_law_marks" "_law_marks" sMarks f fd) (T : TxtL mg) (R : Errs K mg fW D) (mv : mg "ValueError" = none) : FnP P w K mg base CX0 1 f fd ["e"] (spMarks D) := by
  refine ok_hot F scMk (fun z vs H Q E h => ?_) (fun cdv z A outer s H vs Q E hot hr h => ?_)
  · obtain ⟨i, dd, fs, rfl, _⟩ := h
    rfl
  · obtain ⟨i, dd, fs, rfl, ⟨le, hcls, hdat, hdic⟩, hd, k⟩ := h
    have ec := R.cl i le
    refine ⟨_, pss_cons (ps_set (i := 1) scMk.nd rfl (.inl rfl) (pe_lst (pa_cons (pe_callB (call_isP (List.mem_singleton.mpr rfl) ec hcls hdat) (by rfl) T.isi (by decide +kernel) (pa_cons (pv 0) (pa_cons (pe_glob (v := .ref (D 0)) (by rfl) R.m0 rfl) pa_nil)))
          (pa_cons (pe_callB (call_isP (List.mem_singleton.mpr rfl) ec hcls hdat) (by rfl) T.isi (by decide +kernel) (pa_cons (pv 0) (pa_cons (pe_glob (v := .ref (D 1)) (by rfl) R.m1 rfl) pa_nil)))
          (pa_cons (pe_callB (call_isP (List.mem_singleton.mpr rfl) ec hcls hdat) (by rfl) T.isi (by decide +kernel) (pa_cons (pv 0) (pa_cons (pe_glob (v := .ref (D 2)) (by rfl) R.m2 rfl) pa_nil)))
          (pa_cons (pe_callB (call_isP (List.mem_singleton.mpr rfl) ec hcls hdat) (by rfl) T.isi (by decide +kernel) (pa_cons (pv 0) (pa_cons (pe_glob (v := .ref (D 3)) (by rfl) R.m3 rfl) pa_nil)))
          pa_nil))))))
      (pss_cons (ps_set (i := 2) scMk.nd rfl (.inl rfl) (pe_lst (pa_cons (pe_callB (call_isP (List.mem_singleton.mpr rfl) ec hcls hdat) (by rfl) T.isi (by decide +kernel) (pa_cons (pv 0) (pa_cons (pe_glob (v := .ref (D 4)) (by rfl) R.m4 rfl) pa_nil)))
          (pa_cons (pe_callB (call_isP (List.mem_singleton.mpr rfl) ec hcls hdat) (by rfl) T.isi (by decide +kernel) (pa_cons (pv 0) (pa_cons (pe_glob (v := .ref (D 5)) (by rfl) R.m5 rfl) pa_nil)))
          (pa_cons (pe_callB (call_isP (List.mem_singleton.mpr rfl) ec hcls hdat) (by rfl) T.isi (by decide +kernel) (pa_cons (pv 0) (pa_cons (pe_glob (v := .ref (D 6)) (by rfl) R.m6 rfl) pa_nil)))
          (pa_cons (pe_callB (call_isP (List.mem_singleton.mpr rfl) ec hcls hdat) (by rfl) T.isi (by decide +kernel) (pa_cons (pv 0) (pa_cons (pe_glob (v := .ref (D 7)) (by rfl) R.m7 rfl) pa_nil)))
          pa_nil))))))
      (pss_cons (ps_set (i := 3) scMk.nd rfl (.inl rfl) (pe_lst (pa_cons (pe_callB (call_isP (List.mem_singleton.mpr rfl) ec hcls hdat) (by rfl) T.isi (by decide +kernel) (pa_cons (pv 0) (pa_cons (pe_glob (v := .ref (D 8)) (by rfl) R.m8 rfl) pa_nil)))
          (pa_cons (pe_callB (call_isP (List.mem_singleton.mpr rfl) ec hcls hdat) (by rfl) T.isi (by decide +kernel) (pa_cons (pv 0) (pa_cons (pe_glob (v := .ref (D 9)) (by rfl) R.m9 rfl) pa_nil)))
          (pa_cons (pe_callB (call_isP (List.mem_singleton.mpr rfl) ec hcls hdat) (by rfl) T.isi (by decide +kernel) (pa_cons (pv 0) (pa_cons (pe_bltn (v := .ty "ValueError") (by rfl) mv (by decide +kernel) rfl) pa_nil)))
          (pa_cons (pe_callB (call_isP (List.mem_singleton.mpr rfl) ec hcls hdat) (by rfl) T.isi (by decide +kernel) (pa_cons (pv 0) (pa_cons (pe_glob (v := .ref (D 10)) (by rfl) R.m10 rfl) pa_nil)))
          pa_nil))))))
      (pss_one (ps_ret (pe_op op_cat (pe_op op_cat (pv 1) (pv 2)) (pv 3)))))), ?_⟩
    refine ⟨_, rfl, _, _, _, _, _, rfl, only_ref, R.kit i 0 le (by decide), hdic, hd, _, rfl, _, _, _, _, _, rfl, only_ref, R.kit i 1 le (by decide), hdic, hd, _, rfl, _, _, _, _, _, rfl, only_ref, R.kit i 2 le (by decide), hdic, hd, _, rfl, _, _, _, _, _, rfl, only_ref, R.kit i 3 le (by decide), hdic, hd, (by show 4 ≤ sizeLine; decide), fun r1 n1 => ?_⟩
    have s1 : Same H (upd H r1 (.lst [V.bl (decide (i = 0)), V.bl (decide (i = 1)), V.bl (decide (i = 2)), V.bl (decide (i = 3))])) := Same.upd n1
    have e1 : (upd H r1 (.lst [V.bl (decide (i = 0)), V.bl (decide (i = 1)), V.bl (decide (i = 2)), V.bl (decide (i = 3))])) r1 = some (.lst [V.bl (decide (i = 0)), V.bl (decide (i = 1)), V.bl (decide (i = 2)), V.bl (decide (i = 3))]) := upd_same
    generalize upd H r1 (.lst [V.bl (decide (i = 0)), V.bl (decide (i = 1)), V.bl (decide (i = 2)), V.bl (decide (i = 3))]) = H1 at s1 e1 ⊢
    have d1 := s1 _ _ hd
    refine ⟨_, rfl, _, _, _, _, _, rfl, only_ref, R.kit i 4 le (by decide), hdic, d1, _, rfl, _, _, _, _, _, rfl, only_ref, R.kit i 5 le (by decide), hdic, d1, _, rfl, _, _, _, _, _, rfl, only_ref, R.kit i 6 le (by decide), hdic, d1, _, rfl, _, _, _, _, _, rfl, only_ref, R.kit i 7 le (by decide), hdic, d1, (by show 4 ≤ sizeLine; decide), fun r2 n2 => ?_⟩
    have s2 : Same H1 (upd H1 r2 (.lst [V.bl (decide (i = 4)), V.bl (decide (i = 5)), V.bl (decide (i = 6)), V.bl (decide (i = 7))])) := Same.upd n2
    have e2 : (upd H1 r2 (.lst [V.bl (decide (i = 4)), V.bl (decide (i = 5)), V.bl (decide (i = 6)), V.bl (decide (i = 7))])) r2 = some (.lst [V.bl (decide (i = 4)), V.bl (decide (i = 5)), V.bl (decide (i = 6)), V.bl (decide (i = 7))]) := upd_same
    generalize upd H1 r2 (.lst [V.bl (decide (i = 4)), V.bl (decide (i = 5)), V.bl (decide (i = 6)), V.bl (decide (i = 7))]) = H2 at s2 e2 ⊢
    have d2 := s2 _ _ d1
    have e1' := s2 _ _ e1
    refine ⟨_, rfl, _, _, _, _, _, rfl, only_ref, R.kit i 8 le (by decide), hdic, d2, _, rfl, _, _, _, _, _, rfl, only_ref, R.kit i 9 le (by decide), hdic, d2, _, rfl, _, _, _, _, _, rfl, only_ty, R.kitV i le, hdic, d2, _, rfl, _, _, _, _, _, rfl, only_ref, R.kitW i le, hdic, d2, (by show 4 ≤ sizeLine; decide), fun r3 n3 => ?_⟩
    have s3 : Same H2 (upd H2 r3 (.lst [V.bl (decide (i = 8)), V.bl (decide (i = 9)), V.bl true, V.bl true])) := Same.upd n3
    have e3 : (upd H2 r3 (.lst [V.bl (decide (i = 8)), V.bl (decide (i = 9)), V.bl true, V.bl true])) r3 = some (.lst [V.bl (decide (i = 8)), V.bl (decide (i = 9)), V.bl true, V.bl true]) := upd_same
    generalize upd H2 r3 (.lst [V.bl (decide (i = 8)), V.bl (decide (i = 9)), V.bl true, V.bl true]) = H3 at s3 e3 ⊢
    have e2' := s3 _ _ e2
    have e1' := s3 _ _ e1'
    refine ⟨_, rfl, _, rfl, r1, r2, _, _, rfl, rfl, e1', e2', (by show 8 ≤ sizeLine; decide), fun p np => ?_⟩
    have s4 := Same.upd (o := .lst ([V.bl (decide (i = 0)), V.bl (decide (i = 1)), V.bl (decide (i = 2)), V.bl (decide (i = 3))] ++ [V.bl (decide (i = 4)), V.bl (decide (i = 5)), V.bl (decide (i = 6)), V.bl (decide (i = 7))])) np
    refine ⟨_, rfl, p, r3, _, _, rfl, rfl, upd_same, s4 _ _ e3, (by show 12 ≤ sizeLine; decide), fun q nq => ?_⟩
    have s5 := ((s1.trans s2).trans (s3.trans s4)).trans (Same.upd (o := .lst (([V.bl (decide (i = 0)), V.bl (decide (i = 1)), V.bl (decide (i = 2)), V.bl (decide (i = 3))] ++ [V.bl (decide (i = 4)), V.bl (decide (i = 5)), V.bl (decide (i = 6)), V.bl (decide (i = 7))]) ++ [V.bl (decide (i = 8)), V.bl (decide (i = 9)), V.bl true, V.bl true])) nq)
    refine k q _ s5 (((s1.trans s2).trans (s3.trans s4)).free nq) ?_
    rw [upd_same]
    rfl
end
end RX

set_option Elab.async false
set_option maxRecDepth 100000
namespace RX
open PySem L2 L2H XH
theorem nothing_out {X : Cx} : L2N.Takes X (fun _ _ _ _ => False) := fun _ _ ⟨_, _, _, _, _, _, _, _, _, _, _, _, _, _, _, _, z⟩ => z.elim
theorem pass_at0 {X : Cx} {E : XK} : ∀ σ : L2.St, PassesAt CX0 X σ E := fun _ _ _ _ _ _ _ h => h.elim
theorem dpMarks {K : PySem.W.Frag} {H : Hp} {r : Addr} {i : Nat} (h : H r = some (.lst (marksV i))) : Dp K H (.ref r) (.list (marksD i)) :=
  .lst (SqL.of h) (.cons (.bl _) (.cons (.bl _) (.cons (.bl _) (.cons (.bl _) (.cons (.bl _) (.cons (.bl _) (.cons (.bl _) (.cons (.bl _) (.cons (.bl _) (.cons (.bl _) (.cons (.bl _) (.cons (.bl _) .nil))))))))))))
theorem eqMarks : ∀ i, i < 11 → PyData.eqv (.list (marksD i)) (.list (marksD i)) = true := by decide +kernel
theorem unitsM {k : Nat} {A : Around} (r : Room k A) (h : Option Value) : (A.mark h).units + 64 < cLine := by
  have := r.un
  show A.units + 64 < cLine
  omega
/-- within a suite: the marks of the error, compared with those of D i -/
def tMrk (a : Addr) (cls : Value) (d : Option Addr) (D : Nat → Addr) (ta : TE) (td : TE) : TE := fun σ H Q => ta σ H fun x H1 => x = .ref a ∧ ∃ (i : Nat) (dd : Addr) (fs : List (Str × V)), i ≤ 10 ∧ cls = .ref (D i) ∧ d = some dd ∧ H1 dd = some (.xd fs) ∧
  ∀ H2, Same H1 H2 → td σ H2 fun y H3 => y = .int (i : Int) ∧ Same H2 H3 ∧ ∀ H', Same H3 H' → Q (.bl true) H'
def MonoE (t : TE) : Prop := ∀ σ H (Q Q' : VK), (∀ v h, Q v h → Q' v h) → t σ H Q → t σ H Q'
theorem mono_var (i : Nat) : MonoE (tVar i) := fun _ _ _ _ im ⟨v, e, q⟩ => ⟨v, e, im _ _ q⟩
theorem mono_c (v : V) : MonoE (tC v) := fun _ _ _ _ im q => im _ _ q
theorem pe_imp {X : Cx} {e : Expr} {t t' : TE} (im : ∀ σ H Q, t' σ H Q → t σ H Q) (h : PE X e t) : PE X e t' := ⟨fun pins s σ H Q I told => h.run pins s σ H Q I (im _ _ _ told)⟩
abbrev E00 : L2.St → XK := fun _ _ _ _ => False
section
variable {K : PySem.W.Frag} {D : Nat → Addr} {a : Addr} {oe : Obj} {cls : Value} {d : Option Addr} {ta td : TE}
theorem mrk_told (ma : MonoE ta) (md : MonoE td) (hz : L2N.Zn cls d oe) (hf : ∃ vs, oe.data = .fields vs) : ∀ σ H Q, tMrk a cls d D ta td σ H Q → tOp (rEqD K) (tCallS (spMarks D (a, oe)) E00 (tCons ta tNil)) (tCallS (spDue (a, oe)) E00 (tCons td tNil)) σ H Q := by
  intro σ H Q told
  refine ma σ H _ _ (fun x H1 told => ?_) told
  obtain ⟨rfl, i, dd, fs, le, rfl, rfl, at_d, told⟩ := told
  refine ⟨i, dd, fs, rfl, ⟨le, hz.1, hf, hz.2.1⟩, at_d, fun r H2 s2 nr hr => ?_⟩
  refine md σ H2 _ _ (fun y H3 told => ?_) (told H2 s2)
  obtain ⟨rfl, s3, told⟩ := told
  refine ⟨i, rfl, fun r' H4 s4 nr' hr' => ?_⟩
  refine ⟨_, _, dpMarks (s4 _ _ (s3 _ _ hr)), dpMarks hr', rfl, rfl, ?_⟩
  rw [eqMarks i (Nat.lt_succ_of_le le)]
  exact told H4 s4
theorem hot_of {A : Around} (hz : L2N.Zn cls d oe) (hf : ∃ vs, oe.data = .fields vs) : Hot1 (A.mark (some (.ref a))) (a, oe) := by
  obtain ⟨vs, ed⟩ := hf
  exact ⟨rfl, vs, ed, hz.2.2 vs ed⟩
end
/-- the two defs that a suite asks -/
structure CalP (P : Program) (w : World) (K : PySem.W.Frag) (mg : Str → Option Value) (base : Heap) (x : Str) (k : Nat) (ps : List Str) (sp : SpP) (f : Addr) (fd : FuncData) : Prop where
  G : FnP P w K mg base CX0 k f fd ps sp
  m : mg x = some (.ref f)
  kp : PySem.W.keepIn K (.ref f) = true
  b : Binds K fd ps []
theorem PSs_imp {X : Cx} {b : List Stmt} {t t' : TS} (h : PSs X b t) (im : ∀ M σ H, t' M σ H → t M σ H) : PSs X b t' := ⟨fun pins s σ H D I told => h.run pins s σ H D I (im _ _ _ told)⟩
end RX

set_option Elab.async false
set_option maxRecDepth 100000
namespace RX
open PySem L2 L2H XH LX VA
/-- tuples stay -/
def KT (H H' : Hp) : Prop := ∀ c xs, H c = some (.tup xs) → H' c = some (.tup xs)
theorem KT.trans {H H1 H2 : Hp} (a : KT H H1) (b : KT H1 H2) : KT H H2 := fun c xs h => b c xs (a c xs h)
theorem KT.same {H H' : Hp} (s : Same H H') : KT H H' := fun c xs h => s c _ h
theorem KT.refl {H : Hp} : KT H H := fun _ _ h => h
theorem KT.upd {H : Hp} {D : Addr} {o : HO} (h : ∀ xs, H D ≠ some (.tup xs)) : KT H (L2.upd H D o) := fun c xs e => by
  rw [upd_ne fun z => h xs (by rw [← z]; exact e)]
  exact e
def RowT (H : Hp) (v : V) (n : Nat) : Prop := ∃ q zs, v = .ref q ∧ H q = some (.tup zs) ∧ zs.length = n
def StepT (H : Hp) (v : V) (n : Nat) (rl : Nat → Nat) : Prop := ∃ p ys, v = .ref p ∧ H p = some (.tup ys) ∧ ys.length = n ∧ ∀ i, i < n → ∃ y, ys[i]? = some y ∧ RowT H y (rl i)
theorem RowT.keep {H H' : Hp} {v : V} {n : Nat} (h : RowT H v n) (k : KT H H') : RowT H' v n := by
  obtain ⟨q, zs, e, hq, l⟩ := h
  exact ⟨q, zs, e, k _ _ hq, l⟩
theorem StepT.keep {H H' : Hp} {v : V} {n : Nat} {rl : Nat → Nat} (h : StepT H v n rl) (k : KT H H') : StepT H' v n rl := by
  obtain ⟨q, zs, e, hq, l, r⟩ := h
  refine ⟨q, zs, e, k _ _ hq, l, fun i hi => ?_⟩
  obtain ⟨y, hy, hr⟩ := r i hi
  exact ⟨y, hy, hr.keep k⟩
/-- the lengths of what is passed -/
structure Lens where
  ls : Nat
  kt : Nat
  le : Nat
  sl : Nat → Nat
  rl : Nat → Nat → Nat
structure Lens.Ok (z : Lens) : Prop where
  ls : z.ls ≤ 1000
  kt : z.kt ≤ 1000
  le : z.le ≤ 1000
  sl : ∀ x, z.sl x ≤ 1000
def Lens.okS (z : Lens) (x : Nat) : Bool := decide (z.sl x = z.ls) && (List.range (z.sl x)).all fun i => decide (z.rl x i = z.ls)
def Lens.fit (z : Lens) (L : Int) : Bool := decide (1 ≤ L) && (decide (L ≤ 4) && (decide (z.le = z.ls) && (decide ((z.kt : Int) = L) && (List.range z.kt).all z.okS)))
structure ShT (H : Hp) (vS vT vE : V) (z : Lens) : Prop where
  s : RowT H vS z.ls
  e : RowT H vE z.le
  t : ∃ p ys, vT = .ref p ∧ H p = some (.tup ys) ∧ ys.length = z.kt ∧ ∀ x, x < z.kt → ∃ y, ys[x]? = some y ∧ StepT H y (z.sl x) (z.rl x)
theorem ShT.keep {H H' : Hp} {vS vT vE : V} {z : Lens} (h : ShT H vS vT vE z) (k : KT H H') : ShT H' vS vT vE z := by
  obtain ⟨s, e, p, ys, rfl, hp, l, t⟩ := h
  refine ⟨s.keep k, e.keep k, p, ys, rfl, k _ _ hp, l, fun x hx => ?_⟩
  obtain ⟨y, hy, hs⟩ := t x hx
  exact ⟨y, hy, hs.keep k⟩
def spFitB (CM : Addr) : Sp := fun vs H Q _ => ∃ (p dx : Addr) (L : Int) (vS vT vE : V) (z : Lens), vs = [.ref p] ∧ H p = some (.ins CM dx (mf0 L vS vT vE)) ∧ ShT H vS vT vE z ∧ z.Ok ∧ ∀ H', Same H H' → Q (.bl (z.fit L)) H'
theorem blsR {n : Nat} {f : Nat → Bool} : (List.range (n + 1)).map (fun i => V.bl (f i)) = (List.range n).map (fun i => V.bl (f i)) ++ [V.bl (f n)] := by
  rw [List.range_succ, List.map_append]
  rfl
theorem allR {n : Nat} {f : Nat → Bool} : ((List.range n).map f).all id = (List.range n).all f := by
  rw [List.all_map]
  rfl
theorem dNat {a b : Nat} : decide (V.int (a : Int) = V.int (b : Int)) = decide (a = b) := by
  by_cases h : a = b
  · rw [h, decide_eq_true rfl, decide_eq_true rfl]
  · rw [decide_eq_false h, decide_eq_false fun z => h (by injection z with z; omega)]
section
variable {P : Program} {w : World} {K : PySem.W.Frag} {mg : Str → Option Value} {base : Heap}
theorem ok_fitB {f CM : Addr} {fd : FuncData} (F : Fun K "_fits" "Machine._fits" sFit f fd) (T : TxtL mg) (TM : TxtM K mg CM) (mall : mg "all" = none) : FnOk P w K mg base CX0 1 f fd ["self"] (spFitB CM) := by
  refine F.ok scFit (fun vs H Q E h => ?_) (fun cdv A outer s H vs Q E hr h => ?_)
  · obtain ⟨p, dx, L, vS, vT, vE, z, rfl, _⟩ := h
    rfl
  · obtain ⟨p, dx, L, vS, vT, vE, z, rfl, hp, sh, zk, k⟩ := h
    obtain ⟨⟨qs, xs, rfl, hxs, lxs⟩, ⟨qe, xe, rfl, hxe, lxe⟩, qt, xt, rfl, hxt, lxt, ext⟩ := sh
    have bad : z.fit L = false → Q (.bl false) H := fun e => by
      have := k H (Same.refl H)
      rw [e] at this
      exact this
    refine ⟨_, pss_cons (ps_set (i := 1) scFit.nd rfl (.inr rfl) (pe_callB call_len_seq (by rfl) T.len PySem.boot_len (pa_cons (pe_fld (pv 0) rfl) pa_nil)))
      (C8.pss_cut (ps_if (PW.pt (pw_or (pt_not (pt_chain op_le op_le pe_int (pe_fld (pv 0) rfl) pe_int)) (pw_or (pt_cmpR op_ne (pe_callB call_len_seq (by rfl) T.len PySem.boot_len (pa_cons (pe_fld (pv 0) rfl) pa_nil)) (pv 1) (nomark _)) (pw_or1 (pt_cmpR op_ne (pe_callB call_len_seq (by rfl) T.len PySem.boot_len (pa_cons (pe_fld (pv 0) rfl) pa_nil)) (pe_fld (pv 0) rfl) (nomark _))))))
        (pss_one (ps_ret pe_bl))
        pss_nil)
      (pss_one (ps_ret (pe_callB (cr_all rfl) (by rfl) mall (by decide +kernel) (pa_cons (pe_lc (own := [("step", 2)]) (g := gName 2) (tt := tYes) rfl scFit.nd (pi_tup (pe_fld (pv 0) rfl)) (blkOk_by (N := ["self", "size", "step", "row"]) (sc := (defScope sFit)) (by decide +kernel)) (fun _ _ _ _ _ => (pg_name (i := 2) scFit.nd rfl (.inl rfl))) (fun _ _ _ _ _ => pts_nil) (fun _ _ _ _ _ => (pe_and (pe_cmpR op_eq (pe_callB (show CallR _ (.builtin "len") (rLenS K) from call_len_seqK) (by rfl) T.len PySem.boot_len (pa_cons (pv 2) pa_nil)) (pv 1) (nomark _)) (pe_one (pe_callB (show CallR _ _ (rAll K) from cr_all rfl) (by rfl) mall (by decide +kernel) (pa_cons (pe_lc (own := [("row", 3)]) (g := gName 3) (tt := tYes) rfl scFit.nd (pi_tupK (K := K) rfl (pv 2)) (blkOk_by (N := ["self", "size", "step", "row"]) (sc := outFit0) (by decide +kernel)) (fun _ _ _ _ _ => (pg_name (i := 3) scFit.nd rfl (.inl rfl))) (fun _ _ _ _ _ => pts_nil) (fun _ _ _ _ _ => (pe_cmpR op_eq (pe_callB (show CallR _ (.builtin "len") (rLenS K) from call_len_seqK) (by rfl) T.len PySem.boot_len (pa_cons (pv 3) pa_nil)) (pv 1) (nomark _)))) pa_nil)))))) pa_nil))))), ?_⟩
    refine ⟨_, rfl, p, CM, dx, _, _, rfl, hp, TM.cl, TM.nS, mf0_s, qs, xs, rfl, .inr (SqT.of hxs), ?_⟩
    rw [lxs]
    refine ⟨fun σ' H' => σ' = [some (.ref p), some (.int (z.ls : Int)), none, none] ∧ H' = H ∧ 1 ≤ L ∧ L ≤ 4 ∧ z.le = z.ls ∧ (z.kt : Int) = L, ?_, ?_⟩
    · refine ⟨_, rfl, p, CM, dx, _, _, rfl, hp, TM.cl, TM.nL, mf0_l, _, _, rfl, rfl, _, rfl, ?_⟩
      refine ite2 (fun e1 => ?_) (fun e1 => ?_)
      · have e1 := of_decide_eq_true e1
        refine ⟨_, _, rfl, rfl, _, rfl, ?_⟩
        by_cases e2 : L ≤ 4
        · refine itF (by rw [decide_eq_true e2]; rfl) ?_
          refine ⟨_, rfl, p, CM, dx, _, _, rfl, hp, TM.cl, TM.nE, mf0_e, qe, xe, rfl, .inr (SqT.of hxe), _, rfl, rfl, _, rfl, ?_⟩
          rw [lxe]
          by_cases e3 : z.le = z.ls
          · refine itF (by rw [dNat, decide_eq_true e3]; rfl) ?_
            refine ⟨_, rfl, p, CM, dx, _, _, rfl, hp, TM.cl, TM.nT, mf0_t, qt, xt, rfl, .inr (SqT.of hxt), _, rfl, p, CM, dx, _, _, rfl, hp, TM.cl, TM.nL, mf0_l, rfl, _, rfl, ?_⟩
            rw [lxt]
            by_cases e4 : (z.kt : Int) = L
            · refine itF (by rw [e4, decide_eq_true rfl]; rfl) ?_
              exact ⟨rfl, rfl, e1, e2, e3, e4⟩
            · refine itT (by rw [decide_eq_false fun y => e4 (by injection y)]; rfl) ?_
              exact bad (by unfold Lens.fit; rw [decide_eq_false e4]; simp)
          · refine itT (by rw [dNat, decide_eq_false e3]; rfl) ?_
            exact bad (by unfold Lens.fit; rw [decide_eq_false e3]; simp)
        · refine itT (by rw [decide_eq_false e2]; rfl) ?_
          exact bad (by unfold Lens.fit; rw [decide_eq_false e2]; simp)
      · have e1 : ¬ 1 ≤ L := fun y => e1 (decide_eq_true y)
        exact ⟨false, rfl, bad (by unfold Lens.fit; rw [decide_eq_false e1]; simp)⟩
    · rintro σ' H' ⟨rfl, rfl, e1, e2, e3, e4⟩
      have zkt := zk.kt
      refine ⟨_, rfl, p, CM, dx, _, _, rfl, hp, TM.cl, TM.nT, mf0_t, qt, rfl, ⟨_, SqT.of hxt⟩, fun D nD => ?_⟩
      refine lc_it (walk_tup (K := K) (a := qt) (xs := xt)) (fun i H1 => H1 D = some (.lst ((List.range i).map fun x => V.bl (z.okS x))) ∧ Same H' H1) ⟨upd_same, Same.upd nD⟩ (fun i H1 _ h => SqT.of (h.2 _ _ hxt)) ?_ ?_
      · rintro i x H1 H2 hi ⟨hD, s1⟩ ⟨rfl, hx⟩
        rw [lxt] at hi
        obtain ⟨x', hx', hd⟩ := ext i hi
        rw [hx'] at hx
        obtain rfl := Option.some.inj hx
        have zsl := zk.sl i
        obtain ⟨ty, ys, rfl, hys, lys, eys⟩ := hd.keep (KT.same s1)
        refine ⟨rfl, _, rfl, ty, ys, rfl, .inr (SqT.of hys), _, rfl, rfl, _, rfl, ?_⟩
        rw [lys, dNat]
        by_cases e5 : z.sl i = z.ls
        · refine itT (decide_eq_true e5) ?_
          refine ⟨_, rfl, ty, rfl, ⟨_, SqT.of hys⟩, fun G nG => ?_⟩
          have GD : D ≠ G := ne_of_none hD nG
          refine lc_it (walk_tup (K := K) (a := ty) (xs := ys)) (fun j H4 => H4 G = some (.lst ((List.range j).map fun i' => V.bl (decide (z.rl i i' = z.ls)))) ∧ Same H2 H4) ⟨upd_same, Same.upd nG⟩ (fun i H1 _ h => SqT.of (h.2 _ _ hys)) ?_ ?_
          · rintro j y H4 H5 hj ⟨hG, s4⟩ ⟨rfl, hy⟩
            rw [lys] at hj
            obtain ⟨y', hy', hd'⟩ := eys j hj
            rw [hy'] at hy
            obtain rfl := Option.some.inj hy
            obtain ⟨tz, zs, rfl, hzs, lzs⟩ := hd'.keep (KT.same s4)
            refine ⟨rfl, _, rfl, tz, zs, rfl, .inr (SqT.of hzs), _, rfl, rfl, ?_⟩
            rw [lzs, dNat]
            refine ⟨_, hG, by rw [List.length_map, List.length_range]; exact small1000 (by omega), ?_, fun c o hc => ?_⟩
            · rw [upd_same, blsR (f := fun i' => decide (z.rl i i' = z.ls))]
            · rw [upd_ne (ne_of_none hc nG)]
              exact s4 _ _ hc
          · rintro H4 ⟨hG, s4⟩
            rw [lys] at hG
            refine ⟨G, (List.range (z.sl i)).map fun i' => decide (z.rl i i' = z.ls), rfl, SqL.of (by rw [hG, List.map_map]; rfl), ?_⟩
            rw [allR]
            refine ⟨_, s4 _ _ hD, by rw [List.length_map, List.length_range]; exact small1000 (by omega), ?_, fun c o hc => ?_⟩
            · rw [upd_same, blsR (f := fun x => z.okS x)]
              have e6 : z.okS i = (List.range (z.sl i)).all fun i' => decide (z.rl i i' = z.ls) := by
                unfold Lens.okS
                rw [decide_eq_true e5]
                rfl
              rw [e6]
            · rw [upd_ne (ne_of_none hc nD)]
              exact s4 _ _ (s1 _ _ hc)
        · refine itF (decide_eq_false e5) ?_
          refine ⟨_, hD, by rw [List.length_map, List.length_range]; exact small1000 (by omega), ?_, fun c o hc => ?_⟩
          · rw [upd_same, blsR (f := fun x => z.okS x)]
            have e6 : z.okS i = false := by
              unfold Lens.okS
              rw [decide_eq_false e5]
              rfl
            rw [e6]
          · rw [upd_ne (ne_of_none hc nD)]
            exact s1 _ _ hc
      · rintro H1 ⟨hD, s1⟩
        rw [lxt] at hD
        refine ⟨D, (List.range z.kt).map z.okS, rfl, SqL.of (by rw [hD, List.map_map]; rfl), ?_⟩
        rw [allR]
        have := k H1 s1
        unfold Lens.fit at this
        rw [decide_eq_true e1, decide_eq_true e2, decide_eq_true e3, decide_eq_true e4] at this
        exact this
end
end RX

set_option Elab.async false
set_option maxRecDepth 100000
namespace RX
open PySem L2 L2H XH LX VA
/-- lists stay -/
def KL (H H' : Hp) : Prop := ∀ c xs, H c = some (.lst xs) → H' c = some (.lst xs)
theorem KL.trans {H H1 H2 : Hp} (a : KL H H1) (b : KL H1 H2) : KL H H2 := fun c xs h => b c xs (a c xs h)
theorem KL.same {H H' : Hp} (s : Same H H') : KL H H' := fun c xs h => s c _ h
theorem KL.upd {H : Hp} {D : Addr} {o : HO} (h : ∀ xs, H D ≠ some (.lst xs)) : KL H (L2.upd H D o) := fun c xs e => by
  rw [upd_ne fun z => h xs (by rw [← z]; exact e)]
  exact e
def RowL (H : Hp) (v : V) (n : Nat) : Prop := ∃ q zs, v = .ref q ∧ H q = some (.lst zs) ∧ zs.length = n
def StepL (H : Hp) (v : V) (n : Nat) (rl : Nat → Nat) : Prop := ∃ p ys, v = .ref p ∧ H p = some (.lst ys) ∧ ys.length = n ∧ ∀ i, i < n → ∃ y, ys[i]? = some y ∧ RowL H y (rl i)
theorem RowL.keep {H H' : Hp} {v : V} {n : Nat} (h : RowL H v n) (k : KL H H') : RowL H' v n := by
  obtain ⟨q, zs, e, hq, l⟩ := h
  exact ⟨q, zs, e, k _ _ hq, l⟩
theorem StepL.keep {H H' : Hp} {v : V} {n : Nat} {rl : Nat → Nat} (h : StepL H v n rl) (k : KL H H') : StepL H' v n rl := by
  obtain ⟨q, zs, e, hq, l, r⟩ := h
  refine ⟨q, zs, e, k _ _ hq, l, fun i hi => ?_⟩
  obtain ⟨y, hy, hr⟩ := r i hi
  exact ⟨y, hy, hr.keep k⟩
structure ShL (H : Hp) (vS vT vE : V) (z : Lens) : Prop where
  s : RowL H vS z.ls
  e : RowL H vE z.le
  t : ∃ p ys, vT = .ref p ∧ H p = some (.lst ys) ∧ ys.length = z.kt ∧ ∀ x, x < z.kt → ∃ y, ys[x]? = some y ∧ StepL H y (z.sl x) (z.rl x)
theorem ShL.keep {H H' : Hp} {vS vT vE : V} {z : Lens} (h : ShL H vS vT vE z) (k : KL H H') : ShL H' vS vT vE z := by
  obtain ⟨s, e, p, ys, rfl, hp, l, t⟩ := h
  refine ⟨s.keep k, e.keep k, p, ys, rfl, k _ _ hp, l, fun x hx => ?_⟩
  obtain ⟨y, hy, hs⟩ := t x hx
  exact ⟨y, hy, hs.keep k⟩
theorem tup_raw {K : PySem.W.Frag} {H : Hp} {q : Addr} {xs : List V} {Q : VK} (h : H q = some (.lst xs)) (k : ∀ r, H r = none → Q (.ref r) (L2.upd H r (.tup xs))) : rTupO K [.ref q] H Q := ⟨q, xs, rfl, .inl ⟨SqL.of h, k⟩⟩
theorem tCB_raw {K : PySem.W.Frag} {σ : L2.St} {H : Hp} {te : TE} {q : Addr} {xs : List V} {Q : VK} (ht : ∀ Q : VK, Q (.ref q) H → te σ H Q) (h : H q = some (.lst xs)) (k : ∀ r, H r = none → Q (.ref r) (L2.upd H r (.tup xs))) : tCB (rTupO K) (tCons te tNil) σ H Q := ht _ (tup_raw h k)
theorem snoc_all {R : Nat → V → Prop} {acc : List V} {i : Nat} (l : acc.length = i) (h : ∀ j, j < i → ∃ v, acc[j]? = some v ∧ R j v) {x : V} (hx : R i x) : ∀ j, j < i + 1 → ∃ v, (acc ++ [x])[j]? = some v ∧ R j v := fun j hj => by
  by_cases e : j < i
  · obtain ⟨v, hv, hR⟩ := h j e
    exact ⟨v, by rw [List.getElem?_append_left (by omega)]; exact hv, hR⟩
  · have : j = i := by omega
    subst this
    exact ⟨x, by rw [← l, List.getElem?_concat_length], hx⟩
/-- what does not fit is refused -/
def spMiX (CM : Addr) (D : Nat → Addr) : Sp := fun vs H _ E => ∃ (p dx : Addr) (L : Int) (vS vT vE : V) (z : Lens), vs = [.ref p, .int L, vS, vT, vE] ∧ H p = some (.ins CM dx []) ∧ ShL H vS vT vE z ∧ z.Ok ∧ z.fit L = false ∧
  ∀ dd H', But p H H' → H' dd = some (.xd [("what", .non)]) → E (.ref (D 1)) (some dd) H'
section
variable {P : Program} {w : World} {K : PySem.W.Frag} {mg : Str → Option Value} {base : Heap}
theorem ok_miX {f fF fW CM : Addr} {fd dF dW : FuncData} {D : Nat → Addr} (F : Fun K "__init__" "Machine.__init__" sMi f fd) (TP : TxtP mg) (TM : TxtM K mg CM) (cFi : MetN P w K mg base CM "_fits" 1 ["self"] (spFitB CM) fF dF)
    (R : Errs K mg fW D) (GW : FnOk P w K mg base CX0 1 fW dW ["self", "what"] (spW K)) (bW : ∃ ds, Vals [V.non] ds ∧ Binds K dW ["self", "what"] ds) : FnOk P w K mg base (L2N.CX P w) 3 f fd ["self", "letters", "start", "steps", "end"] (spMiX CM D) := by
  obtain ⟨ds, vds, bW⟩ := bW
  refine XR.ok_out F scMi (fun vs H Q E h => ?_) (fun cdv A outer s H vs Q E hr h => ?_)
  · obtain ⟨p, dx, L, vS, vT, vE, z, rfl, _⟩ := h
    rfl
  · obtain ⟨p, dx, L, vS, vT, vE, z, rfl, hp, sh, zk, hz, k⟩ := h
    have hr1 : Room 1 _ := hr.mono (by decide)
    have hr2 : Room 2 _ := hr
    have zkt := zk.kt
    refine ⟨_, pss_cons (ps_fld (pv 0) (pv 1) rfl)
      (pss_cons (ps_fld (pv 0) (pe_callTy (T := "tuple") call_tuple_of (by rfl) TP.tup (by decide +kernel) (pa_cons (pv 2) pa_nil)) rfl)
      (pss_cons (ps_fld (pv 0) (pe_callTy (T := "tuple") call_tuple_of (by rfl) TP.tup (by decide +kernel) (pa_cons (pe_lc (own := [("step", 5)]) (g := gName 5) (tt := tYes) rfl scMi.nd (XC.pi_or (pi_list (pv 3)) (pi_tup (pv 3))) (blkOk_by (N := ["self", "letters", "start", "steps", "end", "step", "row"]) (sc := (defScope sMi)) (by decide +kernel)) (fun _ _ _ _ _ => (pg_name (i := 5) scMi.nd rfl (.inl rfl))) (fun _ _ _ _ _ => pts_nil) (fun _ _ _ _ _ => (pe_callTy (T := "tuple") (show CallR _ (.type "tuple") (rTupO K) from call_tupK) (by rfl) TP.tup (by decide +kernel) (pa_cons (pe_lc (own := [("row", 6)]) (g := gName 6) (tt := tYes) rfl scMi.nd (XC.pi_or (pi_listK (K := K) rfl (pv 5)) (pi_tupK (K := K) rfl (pv 5))) (blkOk_by (N := ["self", "letters", "start", "steps", "end", "step", "row"]) (sc := outMi0) (by decide +kernel)) (fun _ _ _ _ _ => (pg_name (i := 6) scMi.nd rfl (.inl rfl))) (fun _ _ _ _ _ => pts_nil) (fun _ _ _ _ _ => (pe_callTy (T := "tuple") (show CallR _ (.type "tuple") (rTupO K) from call_tupK) (by rfl) TP.tup (by decide +kernel) (pa_cons (pv 6) pa_nil)))) pa_nil)))) pa_nil)) rfl)
      (pss_cons (ps_fld (pv 0) (pe_callTy (T := "tuple") call_tuple_of (by rfl) TP.tup (by decide +kernel) (pa_cons (pv 4) pa_nil)) rfl)
      (pss_cons (ps_if (pt_not (pt_val (pe_meth0 (pv 0) TM.cl cFi.m cFi.G hr1 cFi.b .nil pass0)))
        (pss_one (L2N.ps_raise rfl (L2N.takes_of rfl rfl rfl rfl) (XR.pmk_err0 (R.oex 1 (by decide)) (R.ini 1 (by decide)) R.fn GW hr2 bW vds pass0 (by rfl) R.m1)))
        pss_nil)
      (pss_one (ps_fld (pv 0) (pe_op op_rep (pe_lst (pa_cons pe_non pa_nil)) (pv 1)) rfl)))))), ?_⟩
    -- letters
    refine ⟨_, rfl, _, rfl, p, CM, dx, _, rfl, hp, TM.cl, TM.nL, (by show 0 < 1000; decide), ?_⟩
    have hp1 : (upd H p (.ins CM dx (putF "letters" (.int L) []))) p = some (.ins CM dx (putF "letters" (.int L) [])) := upd_same
    have b1 : But p H (upd H p (.ins CM dx (putF "letters" (.int L) []))) := But.upd p H _
    have sh := sh.keep (KL.upd (o := .ins CM dx (putF "letters" (.int L) [])) fun xs z => by rw [hp] at z; cases z)
    generalize upd H p (.ins CM dx (putF "letters" (.int L) [])) = H1 at *
    obtain ⟨qS, xS, rfl, hxS, lxS⟩ := sh.s
    dsimp only [tSeq, sFld]
    refine tCB_raw (K := K) (te := tVar 2) (q := qS) (fun Q h => ⟨_, rfl, h⟩) hxS fun rS nrS => ?_
    have s2 : Same H1 (upd H1 rS (.tup xS)) := Same.upd nrS
    have tS : RowT (upd H1 rS (.tup xS)) (.ref rS) z.ls := ⟨rS, xS, rfl, upd_same, lxS⟩
    generalize upd H1 rS (.tup xS) = H2 at *
    have hp2 := s2 _ _ hp1
    refine ⟨_, rfl, p, CM, dx, _, rfl, hp2, TM.cl, TM.nS, (by show 1 < 1000; decide), ?_⟩
    have b3 : But p H (upd H2 p (.ins CM dx (putF "start" (.ref rS) (putF "letters" (.int L) [])))) := (b1.trans (Same.but s2)).trans (But.upd p _ _)
    have hp3 : (upd H2 p (.ins CM dx (putF "start" (.ref rS) (putF "letters" (.int L) [])))) p = some (.ins CM dx (putF "start" (.ref rS) (putF "letters" (.int L) []))) := upd_same
    have sh := (sh.keep (KL.same s2)).keep (KL.upd (o := .ins CM dx (putF "start" (.ref rS) (putF "letters" (.int L) []))) fun xs z => by rw [hp2] at z; cases z)
    have tS := tS.keep (KT.upd (o := .ins CM dx (putF "start" (.ref rS) (putF "letters" (.int L) []))) fun xs z => by rw [hp2] at z; cases z)
    generalize upd H2 p (.ins CM dx (putF "start" (.ref rS) (putF "letters" (.int L) []))) = H3 at *
    -- steps
    obtain ⟨qT, xT, rfl, hxT, lT, eT⟩ := sh.t
    refine or_walk (q := qT) (xs := xT) (fun Q h => ⟨_, rfl, h⟩) (.inr hxT) fun J wJ D1 nD => ?_
    refine lc_it wJ (fun i G => ∃ acc, G D1 = some (.lst acc) ∧ acc.length = i ∧ Same H3 G ∧ ∀ j, j < i → ∃ v, acc[j]? = some v ∧ StepT G v (z.sl j) (z.rl j)) ⟨[], upd_same, rfl, Same.upd nD, fun j hj => absurd hj (by omega)⟩ (fun i G _ b => by obtain ⟨_, _, _, s, _⟩ := b; rw [hxT, s _ _ hxT]) ?_ ?_
    · rintro i x G1 G2 hi ⟨acc, hacc, lacc, sG, eacc⟩ ⟨rfl, hx⟩
      rw [lT] at hi
      obtain ⟨x', hx', hd⟩ := eT i hi
      rw [hx'] at hx
      obtain rfl := Option.some.inj hx
      obtain ⟨qx, ys, rfl, hys, lys, eys⟩ := hd.keep (KL.same sG)
      have zsl := zk.sl i
      refine ⟨rfl, ?_⟩
      refine or_walk (q := qx) (xs := ys) (fun Q h => ⟨_, rfl, h⟩) (.inr hys) fun J2 wJ2 D2 nD2 => ?_
      refine lc_it wJ2 (fun r G => ∃ acc, G D2 = some (.lst acc) ∧ acc.length = r ∧ Same G2 G ∧ ∀ j, j < r → ∃ v, acc[j]? = some v ∧ RowT G v (z.rl i j)) ⟨[], upd_same, rfl, Same.upd nD2, fun j hj => absurd hj (by omega)⟩ (fun i G _ b => by obtain ⟨_, _, _, s, _⟩ := b; rw [hys, s _ _ hys]) ?_ ?_
      · rintro r y G3 G4 hr ⟨ac2, hac2, lac2, sG2, eac2⟩ ⟨rfl, hy⟩
        rw [lys] at hr
        obtain ⟨y', hy', hd'⟩ := eys r hr
        rw [hy'] at hy
        obtain rfl := Option.some.inj hy
        obtain ⟨qy, zs, rfl, hzs, lzs⟩ := hd'.keep (KL.same sG2)
        refine ⟨rfl, ?_⟩
        dsimp only [tYes]
        rw [if_pos rfl]
        refine tCB_raw (K := K) (te := tVar 6) (q := qy) (fun Q h => ⟨_, rfl, h⟩) hzs fun rz nrz => ?_
        have s5 : Same G4 (upd G4 rz (.tup zs)) := Same.upd nrz
        have hac5 := s5 _ _ hac2
        have kt : KT (upd G4 rz (.tup zs)) (upd (upd G4 rz (.tup zs)) D2 (.lst (ac2 ++ [.ref rz]))) := KT.upd fun xs z => by rw [hac5] at z; cases z
        refine ⟨ac2, hac5, by rw [lac2]; exact small1000 (by omega), ac2 ++ [.ref rz], upd_same, by rw [List.length_append, lac2]; rfl, fun c o hc => ?_, snoc_all lac2 (fun j hj => ?_) ?_⟩
        · rw [upd_ne (ne_of_none hc nD2)]
          exact s5 _ _ (sG2 _ _ hc)
        · obtain ⟨v, hv, hR⟩ := eac2 j hj
          exact ⟨v, hv, (hR.keep (KT.same s5)).keep kt⟩
        · exact RowT.keep ⟨rz, zs, rfl, upd_same, lzs⟩ kt
      · rintro G3 ⟨ac2, hac2, lac2, sG2, eac2⟩
        rw [lys] at lac2 eac2
        refine ⟨D2, ac2, rfl, .inl ⟨SqL.of hac2, fun r2 nr2 => ?_⟩⟩
        have s5 : Same G3 (upd G3 r2 (.tup ac2)) := Same.upd nr2
        have st : StepT (upd G3 r2 (.tup ac2)) (.ref r2) (z.sl i) (z.rl i) := ⟨r2, ac2, rfl, upd_same, lac2, fun j hj => by
          obtain ⟨v, hv, hR⟩ := eac2 j hj
          exact ⟨v, hv, hR.keep (KT.same s5)⟩⟩
        have s25 := sG2.trans s5
        have hac5 := s25 _ _ hacc
        generalize upd G3 r2 (.tup ac2) = G5 at *
        have kt : KT G5 (upd G5 D1 (.lst (acc ++ [.ref r2]))) := KT.upd fun xs z => by rw [hac5] at z; cases z
        refine ⟨acc, hac5, by rw [lacc]; exact small1000 (by omega), acc ++ [.ref r2], upd_same, by rw [List.length_append, lacc]; rfl, fun c o hc => ?_, snoc_all lacc (fun j hj => ?_) (st.keep kt)⟩
        · rw [upd_ne (ne_of_none hc nD)]
          exact s25 _ _ (sG _ _ hc)
        · obtain ⟨v, hv, hR⟩ := eacc j hj
          exact ⟨v, hv, (hR.keep (KT.same s25)).keep kt⟩
    · rintro G1 ⟨acc, hacc, lacc, sG, eacc⟩
      rw [lT] at lacc eacc
      refine ⟨D1, acc, rfl, .inl ⟨SqL.of hacc, fun rT nrT => ?_⟩⟩
      have s4 := sG.trans (Same.upd (o := .tup acc) nrT)
      have tT : ∃ p ys, V.ref rT = .ref p ∧ (upd G1 rT (.tup acc)) p = some (.tup ys) ∧ ys.length = z.kt ∧ ∀ x, x < z.kt → ∃ y, ys[x]? = some y ∧ StepT (upd G1 rT (.tup acc)) y (z.sl x) (z.rl x) := ⟨rT, acc, rfl, upd_same, lacc, fun j hj => by
          obtain ⟨v, hv, hR⟩ := eacc j hj
          exact ⟨v, hv, hR.keep (KT.same (Same.upd nrT))⟩⟩
      generalize upd G1 rT (.tup acc) = H4 at *
      have hp4 := s4 _ _ hp3
      have tS := tS.keep (KT.same s4)
      have sh := sh.keep (KL.same s4)
      refine ⟨_, rfl, p, CM, dx, _, rfl, hp4, TM.cl, TM.nT, (by show 2 < 1000; decide), ?_⟩
      have b5 : But p H (upd H4 p (.ins CM dx (putF "steps" (.ref rT) (putF "start" (.ref rS) (putF "letters" (.int L) []))))) := (b3.trans (Same.but s4)).trans (But.upd p _ _)
      have hp5 : (upd H4 p (.ins CM dx (putF "steps" (.ref rT) (putF "start" (.ref rS) (putF "letters" (.int L) []))))) p = some (.ins CM dx (putF "steps" (.ref rT) (putF "start" (.ref rS) (putF "letters" (.int L) [])))) := upd_same
      have kt5 : KT H4 (upd H4 p (.ins CM dx (putF "steps" (.ref rT) (putF "start" (.ref rS) (putF "letters" (.int L) []))))) := KT.upd fun xs z => by rw [hp4] at z; cases z
      have sh := sh.keep (KL.upd (o := .ins CM dx (putF "steps" (.ref rT) (putF "start" (.ref rS) (putF "letters" (.int L) [])))) fun xs z => by rw [hp4] at z; cases z)
      generalize upd H4 p (.ins CM dx (putF "steps" (.ref rT) (putF "start" (.ref rS) (putF "letters" (.int L) [])))) = H5 at *
      obtain ⟨qE, xE, rfl, hxE, lxE⟩ := sh.e
      refine tCB_raw (K := K) (te := tVar 4) (q := qE) (fun Q h => ⟨_, rfl, h⟩) hxE fun rE nrE => ?_
      have s6 : Same H5 (upd H5 rE (.tup xE)) := Same.upd nrE
      have tE : RowT (upd H5 rE (.tup xE)) (.ref rE) z.le := ⟨rE, xE, rfl, upd_same, lxE⟩
      generalize upd H5 rE (.tup xE) = H6 at *
      have hp6 := s6 _ _ hp5
      have kt6 : KT H4 H6 := kt5.trans (KT.same s6)
      refine ⟨_, rfl, p, CM, dx, _, rfl, hp6, TM.cl, TM.nE, (by show 3 < 1000; decide), ?_⟩
      have b7 : But p H (upd H6 p (.ins CM dx (mf0 L (.ref rS) (.ref rT) (.ref rE)))) := (b5.trans (Same.but s6)).trans (But.upd p _ _)
      have hp7 : (upd H6 p (.ins CM dx (mf0 L (.ref rS) (.ref rT) (.ref rE)))) p = some (.ins CM dx (mf0 L (.ref rS) (.ref rT) (.ref rE))) := upd_same
      have kt7 : KT H6 (upd H6 p (.ins CM dx (mf0 L (.ref rS) (.ref rT) (.ref rE)))) := KT.upd fun xs z => by rw [hp6] at z; cases z
      have sT : ShT (upd H6 p (.ins CM dx (mf0 L (.ref rS) (.ref rT) (.ref rE)))) (.ref rS) (.ref rT) (.ref rE) z := by
        have t0 : ShT H6 (.ref rS) (.ref rT) (.ref rE) z := by
          refine ⟨tS.keep kt6, tE, ?_⟩
          obtain ⟨p', ys, e, h, l, t⟩ := tT
          refine ⟨p', ys, e, kt6 _ _ h, l, fun x hx => ?_⟩
          obtain ⟨y, hy, hs⟩ := t x hx
          exact ⟨y, hy, hs.keep kt6⟩
        exact t0.keep kt7
      show (tIfS _ _ _) _ _ (upd H6 p (.ins CM dx (mf0 L (.ref rS) (.ref rT) (.ref rE))))
      generalize upd H6 p (.ins CM dx (mf0 L (.ref rS) (.ref rT) (.ref rE))) = H7 at *
      refine ⟨_, rfl, p, dx, _, rfl, hp7, mf0_no (by decide +kernel) (by decide +kernel) (by decide +kernel) (by decide +kernel), p, dx, L, _, _, _, z, rfl, hp7, sT, zk, fun H8 s8 => ⟨z.fit L, rfl, ?_⟩⟩
      rw [hz]
      refine itT rfl ?_
      exact ⟨(by show 0 ≤ 1000; decide), raise_in (R.oex 1 (by decide)) (R.no 1 (by decide)) fun dd H' fl => k dd H' (b7.trans (Same.but (s8.trans fl.s))) fl.x⟩
end
end RX

set_option Elab.async false
set_option maxRecDepth 100000
namespace RX
open PySem L2 L2H XH LX VA
abbrev sRefd : Stmt := topS 56
theorem scRfd : FnScope ["letters", "passed", "e"] ["letters", "passed"] (defScope sRefd) := ⟨rfl, rfl, rfl, by decide +kernel, rfl, by decide +kernel, by decide +kernel⟩
def spRfd : Sp := fun vs H Q _ => ∃ (L : Int) (r : Addr) (vS vT vE : V) (z : Lens), vs = [.int L, .ref r] ∧ H r = some (.lst [vS, vT, vE]) ∧ ShL H vS vT vE z ∧ z.Ok ∧ z.fit L = false ∧ ∀ H', Same H H' → Q (.bl true) H'
section
variable {P : Program} {w : World} {K : PySem.W.Frag} {mg : Str → Option Value} {base : Heap}
theorem ok_rfd {f fM fW fK fU CM : Addr} {fd dM dK dU : FuncData} {D : Nat → Addr} (F : Fun K "_law_refused" "_law_refused" sRefd f fd) (TM : TxtM K mg CM) (R : Errs K mg fW D) (MM : Mk K CM fM) (GX : FnOk P w K mg base (L2N.CX P w) 3 fM dM ["self", "letters", "start", "steps", "end"] (spMiX CM D)) (bM : Binds K dM ["self", "letters", "start", "steps", "end"] [])
    (cM : CalP P w K mg base "_law_marks" 1 ["e"] (spMarks D) fK dK) (cU : CalP P w K mg base "_law_due_marks" 1 ["k"] spDue fU dU) : FnOk P w K mg base CX0 5 f fd ["letters", "passed"] spRfd := by
  refine F.ok scRfd (fun vs H Q E h => ?_) (fun cdv A outer s H vs Q E hr h => ?_)
  · obtain ⟨L, r, vS, vT, vE, z, rfl, _⟩ := h
    rfl
  · have hr1 : Room 1 _ := hr.mono (by decide)
    refine ⟨_, pss_cons (L2N.ps_try_as (i := 2) (tb := fun W => tDrop (XR.tMakeS CM (spMiX CM D) [] (WE W) (tCons (tVar 0) (tCons (tOp (rIxL K) (tVar 1) (tC (.int 0))) (tCons (tOp (rIxL K) (tVar 1) (tC (.int 1))) (tCons (tOp (rIxL K) (tVar 1) (tC (.int 2))) tNil))))))
        (ts := fun a cls d => tRet (tAndV (tOp rIsN (tXf a cls d (D 1) "what" (tVar 2)) (tC .non)) (tMrk a cls d D (tVar 2) (tC (.int 1))))) (Wout := fun _ _ _ _ => False) rfl rfl scRfd.nd rfl rfl ⟨rfl, by decide, Or.inl R.m10⟩ nothing_out
        (fun W pn xe tk _ => pss_one (ps_expr (by exact (XR.pe_makeS (E := WE W) MM GX hr (by rfl) TM.mgM bM .nil (fun σ => L2N.passAt tk σ) (pa_cons (pv 0) (pa_cons (pe_ix ix_list (pv 1) pe_int (fun _ _ => rfl)) (pa_cons (pe_ix ix_list (pv 1) pe_int (fun _ _ => rfl)) (pa_cons (pe_ix ix_list (pv 1) pe_int (fun _ _ => rfl)) pa_nil))))))))
        (fun a oe cls d pn hz hf => pss_one (ps_ret (pe_and (pe_cmpR op_isN1 (pe_xf (R.xf 1 (by decide)) (R.no 1 (by decide)) hz.zc hf (pv 2)) pe_non (nomark _)) (pe_one (pe_imp (mrk_told (mono_var 2) (mono_c _) hz hf)
          (pe_cmpR (op_eqD (unitsM hr _)) (pe_callP cM.G (roomH_mark hr1 _) (hot_of hz hf) List.mem_cons_self (by rfl) cM.m cM.kp cM.b pass_at0 (pa_cons (pv 2) pa_nil)) (pe_callP cU.G (roomH_mark hr1 _) (hot_of hz hf) List.mem_cons_self (by rfl) cU.m cU.kp cU.b pass_at0 (pa_cons pe_int pa_nil)) (nomark _))))))))
      (pss_one (ps_ret pe_bl)), ?_⟩
    obtain ⟨L, r, vS, vT, vE, z, rfl, hr0, sh, zk, hz, k⟩ := h
    refine ⟨_, rfl, _, rfl, r, _, 0, _, rfl, rfl, SqL.of hr0, rfl, _, rfl, r, _, 1, _, rfl, rfl, SqL.of hr0, rfl, _, rfl, r, _, 2, _, rfl, rfl, SqL.of hr0, rfl, fun x dx nx nd ne => ?_⟩
    have sm : Same H (upd (upd H dx (.own x)) x (.ins CM dx [])) := Same.made nx nd fun _ _ h _ => h
    refine ⟨x, dx, L, vS, vT, vE, z, rfl, upd_same, sh.keep (KL.same sm), zk, hz, fun dd H' b hx => ?_⟩
    have s0 : Same H H' := fun c o hc => b _ _ (sm _ _ hc) (ne_of_none hc nx)
    refine ⟨true, R.exm 1 (by decide), fun _ a na => ?_, fun q => Bool.noConfusion q⟩
    refine ⟨_, rfl, rfl, rfl, dd, _, .non, rfl, hx, rfl, rfl, true, rfl, iteT ?_⟩
    exact ⟨_, rfl, rfl, 1, dd, _, by decide, rfl, rfl, hx, fun H2 s2 => ⟨rfl, Same.refl _, fun H3 s3 => k H3 (s0.trans (s2.trans s3))⟩⟩
end
end RX

set_option Elab.async false
set_option maxRecDepth 100000
namespace RX
open PySem L2 L2H XH LX VA
theorem Psd.keep {C : Addr} {H0 H H' : Hp} {r rs rt re : Addr} {sa : Nat → Addr} {ra : Nat → Nat → Addr} {m : Mc} (h : Psd C H0 H r rs rt re sa ra m) (k : Keep (Al H0) H H') : Psd C H0 H' r rs rt re sa ra m :=
  { h with hr := k.k _ _ h.hr (fun z => z h.fr), t := k.k _ _ h.t (fun z => z h.ft), st := fun x hx => k.k _ _ (h.st x hx) (fun z => z (h.fs x hx)), rw := fun x hx i hi => (h.rw x hx i hi).keep k, s := h.s.keep k, e := h.e.keep k }
/-- all lists but b stay -/
def KLx (b : Addr) (G G' : Hp) : Prop := ∀ c xs, c ≠ b → G c = some (.lst xs) → G' c = some (.lst xs)
theorem KLx.same {b : Addr} {G G' : Hp} (s : Same G G') : KLx b G G' := fun c xs _ h => s c _ h
theorem KLx.trans {b : Addr} {G G1 G2 : Hp} (x : KLx b G G1) (y : KLx b G1 G2) : KLx b G G2 := fun c xs n h => y c xs n (x c xs n h)
theorem KLx.upd {b : Addr} {G : Hp} {o : HO} : KLx b G (L2.upd G b o) := fun c xs n h => by
  rw [upd_ne n]
  exact h
def z0 (m : Mc) : Lens := ⟨m.n, m.k, m.n, fun _ => m.n, fun _ _ => m.n⟩
theorem refs_at {n i : Nat} {a : Nat → Addr} (h : i < n) : (refs n a)[i]? = some (.ref (a i)) := by
  unfold refs
  rw [List.getElem?_map, List.getElem?_range h]
  rfl
theorem Psd.row {C : Addr} {H0 H : Hp} {r rs rt re : Addr} {sa : Nat → Addr} {ra : Nat → Nat → Addr} {m : Mc} (h : Psd C H0 H r rs rt re sa ra m) {x i : Nat} (hx : x < m.k) (hi : i < m.n) : ∃ xs, H (ra x i) = some (.lst xs) ∧ xs.length = m.n := by
  obtain ⟨xs, hp, l, _⟩ := At.lstR (h.rw x hx i hi)
  exact ⟨xs, hp, l⟩
theorem Psd.lns {C : Addr} {H0 H : Hp} {r rs rt re : Addr} {sa : Nat → Addr} {ra : Nat → Nat → Addr} {m : Mc} (h : Psd C H0 H r rs rt re sa ra m) : (∃ xs, H rs = some (.lst xs) ∧ xs.length = m.n) ∧ ∃ xs, H re = some (.lst xs) ∧ xs.length = m.n := by
  obtain ⟨xs, hp, l, _⟩ := At.lstR h.s
  obtain ⟨ys, hq, l', _⟩ := At.lstR h.e
  exact ⟨⟨xs, hp, l⟩, ys, hq, l'⟩
/-- the steps, when nothing of theirs changes -/
theorem Psd.steps {C : Addr} {H0 H H' : Hp} {r rs rt re : Addr} {sa : Nat → Addr} {ra : Nat → Nat → Addr} {m : Mc} (h : Psd C H0 H r rs rt re sa ra m) (k : ∀ c xs, c ≠ rs → c ≠ re → H c = some (.lst xs) → H' c = some (.lst xs)) : ∀ x, x < m.k → StepL H' (.ref (sa x)) m.n (fun _ => m.n) := fun x hx =>
  ⟨sa x, _, rfl, k _ _ (h.d2 x hx).1 (h.d2 x hx).2 (h.st x hx), refs_len _ _, fun i hi => by
    obtain ⟨xs, hp, l⟩ := h.row hx hi
    exact ⟨_, refs_at hi, ra x i, xs, rfl, k _ _ (h.d3 x hx i hi).1 (h.d3 x hx i hi).2 hp, l⟩⟩
theorem Psd.shL {C : Addr} {H0 H H' : Hp} {r rs rt re : Addr} {sa : Nat → Addr} {ra : Nat → Nat → Addr} {m : Mc} (h : Psd C H0 H r rs rt re sa ra m) {xs ys : List V} (k : ∀ c xs, c ≠ rs → c ≠ re → H c = some (.lst xs) → H' c = some (.lst xs)) (hs : H' rs = some (.lst xs)) (he : H' re = some (.lst ys)) :
    ShL H' (.ref rs) (.ref rt) (.ref re) { z0 m with ls := xs.length, le := ys.length } :=
  ⟨⟨rs, xs, rfl, hs, rfl⟩, ⟨re, ys, rfl, he, rfl⟩, rt, _, rfl, k _ _ h.d4.1 h.d4.2 h.t, refs_len _ _, fun x hx => ⟨_, refs_at hx, h.steps k x hx⟩⟩
theorem Psd.sh {C : Addr} {H0 H : Hp} {r rs rt re : Addr} {sa : Nat → Addr} {ra : Nat → Nat → Addr} {m : Mc} (h : Psd C H0 H r rs rt re sa ra m) : ShL H (.ref rs) (.ref rt) (.ref re) (z0 m) := by
  obtain ⟨⟨xs, hs, ls⟩, ys, he, le⟩ := h.lns
  have := h.shL (fun c xs _ _ h => h) hs he
  rw [ls, le] at this
  exact this
/-- another list of steps -/
theorem Psd.shT {C : Addr} {H0 H H' : Hp} {r rs rt re : Addr} {sa : Nat → Addr} {ra : Nat → Nat → Addr} {m : Mc} (h : Psd C H0 H r rs rt re sa ra m) {ts : List V} (k : KLx rt H H') (ht : H' rt = some (.lst ts)) (all : ∀ x, x < ts.length → ∃ y, ts[x]? = some y ∧ StepL H' y m.n (fun _ => m.n)) :
    ShL H' (.ref rs) (.ref rt) (.ref re) { z0 m with kt := ts.length } := by
  obtain ⟨⟨xs, hs, ls⟩, ys, he, le⟩ := h.lns
  exact ⟨⟨rs, xs, rfl, k _ _ h.d4.1.symm hs, ls⟩, ⟨re, ys, rfl, k _ _ h.d4.2.symm he, le⟩, rt, ts, rfl, ht, rfl, all⟩
theorem Psd.stepsT {C : Addr} {H0 H H' : Hp} {r rs rt re : Addr} {sa : Nat → Addr} {ra : Nat → Nat → Addr} {m : Mc} (h : Psd C H0 H r rs rt re sa ra m) (k : KLx rt H H') : ∀ x, x < m.k → StepL H' (.ref (sa x)) m.n (fun _ => m.n) := fun x hx =>
  ⟨sa x, _, rfl, k _ _ (h.d5 x hx).symm (h.st x hx), refs_len _ _, fun i hi => by
    obtain ⟨xs, hp, l⟩ := h.row hx hi
    exact ⟨_, refs_at hi, ra x i, xs, rfl, k _ _ (h.d6 x hx i hi).symm hp, l⟩⟩
/-- another step -/
theorem Psd.shS {C : Addr} {H0 H H' : Hp} {r rs rt re : Addr} {sa : Nat → Addr} {ra : Nat → Nat → Addr} {m : Mc} (h : Psd C H0 H r rs rt re sa ra m) {at' : Nat} (ha : at' < m.k) {ys : List V} (k : KLx (sa at') H H') (hy : H' (sa at') = some (.lst ys)) (all : ∀ i, i < ys.length → ∃ y, ys[i]? = some y ∧ RowL H' y m.n) :
    ShL H' (.ref rs) (.ref rt) (.ref re) { z0 m with sl := fun x => if sa x = sa at' then ys.length else m.n } := by
  obtain ⟨⟨xs, hs, ls⟩, zs, he, le⟩ := h.lns
  refine ⟨⟨rs, xs, rfl, k _ _ (h.d2 _ ha).1.symm hs, ls⟩, ⟨re, zs, rfl, k _ _ (h.d2 _ ha).2.symm he, le⟩, rt, _, rfl, k _ _ (h.d5 _ ha) h.t, refs_len _ _, fun x hx => ⟨_, refs_at hx, ?_⟩⟩
  show StepL H' (.ref (sa x)) (if sa x = sa at' then ys.length else m.n) (fun _ => m.n)
  by_cases e : sa x = sa at'
  · rw [if_pos e, e]
    exact ⟨_, ys, rfl, hy, rfl, all⟩
  · rw [if_neg e]
    refine ⟨sa x, _, rfl, k _ _ e (h.st x hx), refs_len _ _, fun i hi => ?_⟩
    obtain ⟨xs, hp, l⟩ := h.row hx hi
    exact ⟨_, refs_at hi, ra x i, xs, rfl, k _ _ (h.d7 x hx at' ha i hi).symm hp, l⟩
/-- another row -/
theorem Psd.shR {C : Addr} {H0 H H' : Hp} {r rs rt re : Addr} {sa : Nat → Addr} {ra : Nat → Nat → Addr} {m : Mc} (h : Psd C H0 H r rs rt re sa ra m) {at' pl : Nat} (ha : at' < m.k) (hp : pl < m.n) {ys : List V} (k : KLx (ra at' pl) H H') (hy : H' (ra at' pl) = some (.lst ys)) :
    ShL H' (.ref rs) (.ref rt) (.ref re) { z0 m with rl := fun x i => if ra x i = ra at' pl then ys.length else m.n } := by
  obtain ⟨⟨xs, hs, ls⟩, zs, he, le⟩ := h.lns
  refine ⟨⟨rs, xs, rfl, k _ _ (h.d3 _ ha _ hp).1.symm hs, ls⟩, ⟨re, zs, rfl, k _ _ (h.d3 _ ha _ hp).2.symm he, le⟩, rt, _, rfl, k _ _ (h.d6 _ ha _ hp) h.t, refs_len _ _, fun x hx => ⟨_, refs_at hx, ?_⟩⟩
  refine ⟨sa x, _, rfl, k _ _ (h.d7 _ ha _ hx _ hp) (h.st x hx), refs_len _ _, fun i hi => ⟨_, refs_at hi, ?_⟩⟩
  show RowL H' (.ref (ra x i)) (if ra x i = ra at' pl then ys.length else m.n)
  by_cases e : ra x i = ra at' pl
  · rw [if_pos e, e]
    exact ⟨_, ys, rfl, hy, rfl⟩
  · rw [if_neg e]
    obtain ⟨xs, hp, l⟩ := h.row hx hi
    exact ⟨_, xs, rfl, k _ _ e hp, l⟩
theorem fit_ends {z : Lens} {L : Int} (h : z.le ≠ z.ls) : z.fit L = false := by
  unfold Lens.fit
  rw [decide_eq_false h]
  simp
theorem fit_many {z : Lens} {L : Int} (h : (z.kt : Int) ≠ L) : z.fit L = false := by
  unfold Lens.fit
  rw [decide_eq_false h]
  simp
theorem fit_out {z : Lens} {L : Int} (h : L < 1 ∨ 4 < L) : z.fit L = false := by
  unfold Lens.fit
  rcases h with h | h
  · rw [decide_eq_false (show ¬ 1 ≤ L by omega)]
    simp
  · rw [decide_eq_false (show ¬ L ≤ 4 by omega)]
    simp
theorem fit_step {z : Lens} {L : Int} {x : Nat} (hx : x < z.kt) (h : z.sl x ≠ z.ls ∨ ∃ i, i < z.sl x ∧ z.rl x i ≠ z.ls) : z.fit L = false := by
  have o : z.okS x = false := by
    unfold Lens.okS
    rcases h with h | ⟨i, hi, h⟩
    · rw [decide_eq_false h]
      rfl
    · have : ((List.range (z.sl x)).all fun i => decide (z.rl x i = z.ls)) = false := by
        rw [List.all_eq_false]
        exact ⟨i, List.mem_range.mpr hi, by rw [decide_eq_false h]; decide⟩
      rw [this, Bool.and_false]
  have : (List.range z.kt).all z.okS = false := by
    rw [List.all_eq_false]
    exact ⟨x, List.mem_range.mpr hx, by rw [o]; decide⟩
  unfold Lens.fit
  rw [this]
  simp
/-- the steps, when all that is new stays -/
theorem Psd.stepsN {C : Addr} {H0 H H' : Hp} {r rs rt re : Addr} {sa : Nat → Addr} {ra : Nat → Nat → Addr} {m : Mc} (h : Psd C H0 H r rs rt re sa ra m) (k : ∀ c xs, H0 c = none → H c = some (.lst xs) → H' c = some (.lst xs)) : ∀ x, x < m.k → StepL H' (.ref (sa x)) m.n (fun _ => m.n) := fun x hx =>
  ⟨sa x, _, rfl, k _ _ (h.fs x hx) (h.st x hx), refs_len _ _, fun i hi => by
    obtain ⟨xs, hp, l⟩ := h.row hx hi
    exact ⟨_, refs_at hi, ra x i, xs, rfl, k _ _ (al_none (h.rw x hx i hi).notin) hp, l⟩⟩
theorem refs_erase {n pl i : Nat} {f : Nat → Addr} (h : i < n - 1) (hp : pl < n) : ((refs n f).eraseIdx pl)[i]? = some (.ref (f (if i < pl then i else i + 1))) := by
  rw [List.getElem?_eraseIdx]
  split
  · rw [refs_at (by omega)]
  · rw [refs_at (by omega)]
theorem refs_drop {n i : Nat} {f : Nat → Addr} (h : i < n - 1) : ((refs n f).dropLast)[i]? = some (.ref (f i)) := by
  rw [List.getElem?_dropLast, if_pos (by rw [refs_len]; exact h), refs_at (by omega)]
theorem last_at {xs : List V} (h : 0 < xs.length) : ∃ y, xs[xs.length - 1]? = some y := ⟨_, List.getElem?_eq_getElem (by omega)⟩
/-- what is refused -/
def Done (G : Hp) (r : Addr) (L : Int) : Prop := ∃ vS vT vE z, G r = some (.lst [vS, vT, vE]) ∧ ShL G vS vT vE z ∧ z.Ok ∧ z.fit L = false
theorem z0_ok {m : Mc} (n4 : m.n ≤ 4) (k4 : m.k ≤ 4) : (z0 m).Ok := ⟨show m.n ≤ 1000 by omega, show m.k ≤ 1000 by omega, show m.n ≤ 1000 by omega, fun _ => show m.n ≤ 1000 by omega⟩
end RX

set_option Elab.async false
set_option maxRecDepth 100000
namespace RX
open PySem L2 L2H XH LX VA
abbrev sSpoilt : Stmt := topS 57
theorem scSpo : FnScope ["feed", "parts", "kind", "passed", "size", "at", "place", "k"] ["feed", "parts", "kind"] (defScope sSpoilt) := ⟨rfl, rfl, rfl, by decide +kernel, rfl, by decide +kernel, by decide +kernel⟩
def spSpo (C : Addr) : Sp := fun vs H Q _ => ∃ (N : Addr → Prop) (a cl q : Addr) (m : Mc) (kd : Int), vs = [.ref a, .ref q, .int kd] ∧ FeedAt H a cl ∧ At C N H (.ref q) (partsD m) ∧ N a ∧ 1 ≤ m.k ∧ m.k ≤ 4 ∧ m.n ≤ 4 ∧ 0 ≤ kd ∧ kd < 10 ∧ (kd < 6 ∨ 0 < m.n) ∧
  ∀ (r : Addr) (H' : Hp), FeedAt H' a cl → But a H H' → Done H' r m.k → Q (.ref r) H'
/-- after the kinds up to i -/
def SpJ (C a cl q r rs rt re : Addr) (sa : Nat → Addr) (ra : Nat → Nat → Addr) (m : Mc) (kd : Int) (x : Nat) (H : Hp) (o6 : Option V) (i : Int) (σ' : L2.St) (G : Hp) : Prop :=
  σ' = [some (.ref a), some (.ref q), some (.int kd), some (.ref r), some (.int (m.n : Int)), some (.int (x : Int)), o6, none] ∧ FeedAt G a cl ∧ But a H G ∧ ((kd ≤ i ∧ Done G r m.k) ∨ (i < kd ∧ Psd C H G r rs rt re sa ra m))
theorem spj_next {D P : Prop} {kd i j : Int} (e : ¬ decide (V.int kd = V.int j) = true) (ij : i + 1 = j) (h : (kd ≤ i ∧ D) ∨ (i < kd ∧ P)) : (kd ≤ j ∧ D) ∨ (j < kd ∧ P) := by
  have ne : kd ≠ j := fun z => e (by rw [z]; exact decide_eq_true rfl)
  rcases h with ⟨h, d⟩ | ⟨h, p⟩
  · exact .inl ⟨by omega, d⟩
  · exact .inr ⟨by omega, p⟩
theorem spj_eq {kd j : Int} (e : decide (V.int kd = V.int j) = true) : kd = j := by
  have := of_decide_eq_true e
  injection this
theorem spj_at {D P : Prop} {kd i j : Int} (e : kd = j) (ij : i + 1 = j) (h : (kd ≤ i ∧ D) ∨ (i < kd ∧ P)) : P := by
  rcases h with ⟨h, d⟩ | ⟨h, p⟩
  · omega
  · exact p
theorem seqIx {n pl : Nat} (h : pl < n) : seqIndex? (pl : Int) n = some pl := by
  unfold seqIndex?
  have e : ¬ ((pl : Int) < 0) := by omega
  have e2 : (decide ((0 : Int) ≤ (pl : Int)) && decide ((pl : Int) < (n : Int))) = true := by
    rw [decide_eq_true (show (0 : Int) ≤ (pl : Int) by omega), decide_eq_true (show (pl : Int) < (n : Int) by omega)]
    rfl
  dsimp only
  rw [if_neg e, if_pos e2]
  rfl
section
variable {P : Program} {w : World} {K : PySem.W.Frag} {mg : Str → Option Value} {base : Heap}
set_option maxHeartbeats 1000000 in
theorem ok_spo {f fI fL fD C : Addr} {fd dI dL dD : FuncData} (F : Fun K "_law_spoilt" "_law_spoilt" sSpoilt f fd) (T : TxtL mg) (TR : TxtR K mg C) (M : Mk K C fI) (GI : FnOk P w K mg base CX0 33 fI dI ["self", "top", "bottom"] (spInitB C)) (bI1 : ∃ ds, Vals [V.int 1] ds ∧ Binds K dI ["self", "top", "bottom"] ds)
    (cLl : CalN P w K mg base "_law_lists" 36 ["parts"] (spLls C) fL dL) (cDr : CalN P w K mg base "_law_draw" 1 ["feed", "limit"] spDraw fD dD) : FnOk P w K mg base CX0 37 f fd ["feed", "parts", "kind"] (spSpo C) := by
  obtain ⟨ds, vds, bI1⟩ := bI1
  refine F.ok scSpo (fun vs H Q E h => ?_) (fun cdv A outer s H vs Q E hr h => ?_)
  · obtain ⟨N, a, cl, q, m, kd, rfl, _⟩ := h
    rfl
  · obtain ⟨N, a, cl, q, m, kd, rfl, hF, hq, na, k1, k4, n4, kd0, kd10, kdn, kk⟩ := h
    have hr1 : Room 1 _ := hr.mono (by decide)
    have hr34 : Room 34 _ := hr.mono (by decide)
    have hr36 : Room 36 _ := hr
    obtain ⟨qa, qb, qc, hy, ha, hb, hc⟩ := hq.parts
    obtain ⟨xa, hxa, lxa, _⟩ := At.lstR ha
    obtain ⟨xb, hxb, lxb, _⟩ := At.lstR hb
    refine ⟨_, pss_cons (ps_set (i := 3) scSpo.nd rfl (.inl rfl) (pe_call cLl.G hr36 rfl cLl.m cLl.kp cLl.b .nil pass0 (pa_cons (pv 1) pa_nil)))
      (pss_cons (ps_set (i := 4) scSpo.nd rfl (.inl rfl) (pe_callB call_len_seq (by rfl) T.len PySem.boot_len (pa_cons (pe_ix ix_list (pv 1) pe_int (fun _ _ => rfl)) pa_nil)))
      (pss_cons (ps_set (i := 5) scSpo.nd rfl (.inl rfl) (pe_call cDr.G hr1 rfl cDr.m cDr.kp cDr.b .nil pass0 (pa_cons (pv 0) (pa_cons (pe_callB call_len_seq (by rfl) T.len PySem.boot_len (pa_cons (pe_ix ix_list (pv 1) pe_int (fun _ _ => rfl)) pa_nil)) pa_nil))))
      (C8.pss_cut (ps_if (pt_cmpR op_eq (pv 2) pe_int (nomark _))
        (pss_one (ps_expr (pe_bm PySem.F.plainAttrs_list PySem.F.slot_list_append PySem.F.type_list_append mt_append (pe_ix ix_list (pv 3) pe_int (fun _ _ => rfl)) (pa_cons (pe_make M GI hr34 rfl TR.mgC bI1 vds pass0 (pa_cons pe_int pa_nil)) pa_nil))))
        pss_nil)
      (C8.pss_cut (ps_if (pt_cmpR op_eq (pv 2) pe_int (nomark _))
        (pss_one (ps_expr (pe_bm PySem.F.plainAttrs_list PySem.F.slot_list_append PySem.F.type_list_append mt_append (pe_ix ix_list (pv 3) pe_int (fun _ _ => rfl)) (pa_cons (pe_make M GI hr34 rfl TR.mgC bI1 vds pass0 (pa_cons pe_int pa_nil)) pa_nil))))
        pss_nil)
      (C8.pss_cut (ps_if (pt_cmpR op_eq (pv 2) pe_int (nomark _))
        (pss_cons (ps_expr (pe_bm PySem.F.plainAttrs_list PySem.F.slot_list_append PySem.F.type_list_append mt_append (pe_ix ix_list (pv 3) pe_int (fun _ _ => rfl)) (pa_cons (pe_make M GI hr34 rfl TR.mgC bI1 vds pass0 (pa_cons pe_int pa_nil)) pa_nil)))
        (pss_one (ps_expr (pe_bm PySem.F.plainAttrs_list PySem.F.slot_list_append PySem.F.type_list_append mt_append (pe_ix ix_list (pv 3) pe_int (fun _ _ => rfl)) (pa_cons (pe_make M GI hr34 rfl TR.mgC bI1 vds pass0 (pa_cons pe_int pa_nil)) pa_nil)))))
        pss_nil)
      (C8.pss_cut (ps_if (pt_cmpR op_eq (pv 2) pe_int (nomark _))
        (pss_one (ps_expr (pe_bm PySem.F.plainAttrs_list PySem.F.slot_list_append PySem.F.type_list_append mt_append (pe_ix ix_list (pv 3) pe_int (fun _ _ => rfl)) (pa_cons (pe_ix ix_list (pe_ix ix_list (pe_call cLl.G hr36 rfl cLl.m cLl.kp cLl.b .nil pass0 (pa_cons (pv 1) pa_nil)) pe_int (fun _ _ => rfl)) (pv 5) (fun _ _ => rfl)) pa_nil))))
        pss_nil)
      (C8.pss_cut (ps_if (pt_cmpR op_eq (pv 2) pe_int (nomark _))
        (pss_one (ps_expr (pe_bm0 PySem.F.plainAttrs_list PySem.F.slot_list_pop PySem.F.type_list_pop mt_pop (pe_ix ix_list (pv 3) pe_int (fun _ _ => rfl)))))
        pss_nil)
      (C8.pss_cut (ps_if (pt_cmpR op_eq (pv 2) pe_int (nomark _))
        (pss_one (ps_expr (pe_bm PySem.F.plainAttrs_list PySem.F.slot_list_insert PySem.F.type_list_insert mt_insert (pe_ix ix_list (pe_ix ix_list (pv 3) pe_int (fun _ _ => rfl)) (pv 5) (fun _ _ => rfl)) (pa_cons (pe_call cDr.G hr1 rfl cDr.m cDr.kp cDr.b .nil pass0 (pa_cons (pv 0) (pa_cons (pe_op op_add (pv 4) pe_int) pa_nil))) (pa_cons (pe_lc (own := [("k", 7)]) (g := gName 7) (tt := tYes) rfl scSpo.nd (pi_range1 (by rfl) T.range (pa_cons (pv 4) pa_nil)) (blkOk_by (N := ["feed", "parts", "kind", "passed", "size", "at", "place", "k"]) (sc := (defScope sSpoilt)) (by decide +kernel)) (fun _ _ _ _ _ => (pg_name (i := 7) scSpo.nd rfl (.inl rfl))) (fun _ _ _ _ _ => pts_nil) (fun _ _ _ _ _ => (pe_make M GI hr34 rfl TR.mgC bI1 vds pass0 (pa_cons pe_int pa_nil)))) pa_nil)))))
        pss_nil)
      (C8.pss_cut (ps_if (PW.pt (pw_and (pt_cmpR op_gt (pv 2) pe_int (nomark _)) (pw_and1 (pt_cmpR op_gt (pv 4) pe_int (nomark _)))))
        (pss_cons (ps_set (i := 6) scSpo.nd rfl (.inl rfl) (pe_call cDr.G hr1 rfl cDr.m cDr.kp cDr.b .nil pass0 (pa_cons (pv 0) (pa_cons (pv 4) pa_nil))))
        (C8.pss_cut (ps_if (pt_cmpR op_eq (pv 2) pe_int (nomark _))
          (pss_one (ps_expr (pe_bm PySem.F.plainAttrs_list PySem.F.slot_list_pop PySem.F.type_list_pop mt_popAt (pe_ix ix_list (pe_ix ix_list (pv 3) pe_int (fun _ _ => rfl)) (pv 5) (fun _ _ => rfl)) (pa_cons (pv 6) pa_nil))))
          pss_nil)
        (C8.pss_cut (ps_if (pt_cmpR op_eq (pv 2) pe_int (nomark _))
          (pss_one (ps_expr (pe_bm PySem.F.plainAttrs_list PySem.F.slot_list_append PySem.F.type_list_append mt_append (pe_ix ix_list (pe_ix ix_list (pe_ix ix_list (pv 3) pe_int (fun _ _ => rfl)) (pv 5) (fun _ _ => rfl)) (pv 6) (fun _ _ => rfl)) (pa_cons (pe_make M GI hr34 rfl TR.mgC bI1 vds pass0 (pa_cons pe_int pa_nil)) pa_nil))))
          pss_nil)
        (C8.pss_cut (ps_if (pt_cmpR op_eq (pv 2) pe_int (nomark _))
          (pss_one (ps_expr (pe_bm0 PySem.F.plainAttrs_list PySem.F.slot_list_pop PySem.F.type_list_pop mt_pop (pe_ix ix_list (pe_ix ix_list (pe_ix ix_list (pv 3) pe_int (fun _ _ => rfl)) (pv 5) (fun _ _ => rfl)) (pv 6) (fun _ _ => rfl)))))
          pss_nil)
        (pss_one (ps_if (pt_cmpR op_eq (pv 2) pe_int (nomark _))
          (pss_cons (ps_expr (pe_bm0 PySem.F.plainAttrs_list PySem.F.slot_list_pop PySem.F.type_list_pop mt_pop (pe_ix ix_list (pv 3) pe_int (fun _ _ => rfl))))
          (pss_one (ps_expr (pe_bm0 PySem.F.plainAttrs_list PySem.F.slot_list_pop PySem.F.type_list_pop mt_pop (pe_ix ix_list (pv 3) pe_int (fun _ _ => rfl))))))
          pss_nil))))))
        pss_nil)
      (pss_one (ps_ret (pv 3)))))))))))), ?_⟩
    refine ⟨_, rfl, N, q, m, rfl, hq, k1, k4, by omega, fun r rs rt re sa ra H1 s1 pd1 => ?_⟩
    refine ⟨_, rfl, q, _, 0, _, rfl, rfl, SqL.of (s1 _ _ hy), rfl, qa, xa, rfl, .inl (SqL.of (s1 _ _ hxa)), ?_⟩
    rw [lxa]
    refine ⟨_, rfl, _, rfl, q, _, 1, _, rfl, rfl, SqL.of (s1 _ _ hy), rfl, qb, xb, rfl, .inl (SqL.of (s1 _ _ hxb)), a, cl, (xb.length : Int), rfl, hF.same s1, by omega, by omega, fun dx G x0 x1 fG bG => ?_⟩
    rw [lxb] at x1
    obtain ⟨x, rfl⟩ : ∃ x : Nat, dx = (x : Int) := ⟨dx.toNat, by omega⟩
    have xk : x < m.k := by omega
    have bG : But a H G := (Same.but s1).trans bG
    have aAl : Al H a := hF.there
    have pd := pd1.keep (H' := G) (Keep.but (by assumption) aAl fG.there)
    have nrs : H rs = none := al_none pd.s.notin
    have nre : H re = none := al_none pd.e.notin
    have nrt : H rt = none := pd.ft
    have nsa : H (sa x) = none := pd.fs x xk
    have nra : ∀ i, i < m.n → H (ra x i) = none := fun i hi => al_none (pd.rw x xk i hi).notin
    have up : ∀ {G : Hp} {b : Addr} {o : HO}, H b = none → FeedAt G a cl → But a H G → FeedAt (upd G b o) a cl ∧ But a H (upd G b o) := fun {G b o} nb f bt => by
      obtain ⟨n1, n2⟩ := hF.ne_new nb
      refine ⟨f.other n1 n2, fun c o hc ne => ?_⟩
      rw [upd_ne (ne_of_none hc nb)]
      exact bt _ _ hc ne
    have kk1 : m.k ≤ 1000 := by omega
    have nn1 : m.n ≤ 1000 := by omega
    have st : (kd ≤ -1 ∧ Done G r m.k) ∨ (-1 < kd ∧ Psd C H G r rs rt re sa ra m) := .inr ⟨by omega, pd⟩
    clear pd pd1
    refine ⟨SpJ C a cl q r rs rt re sa ra m kd x H none 0, ?_, ?_⟩
    · refine ⟨_, rfl, rfl, _, rfl, ite2 (fun e => ?_) (fun e => ⟨rfl, fG, bG, spj_next e (by decide) st⟩)⟩
      have e := spj_eq e
      have pd := spj_at e (by decide) st
      obtain ⟨⟨xs, hs, ls⟩, ys, he, le⟩ := pd.lns
      refine ⟨_, rfl, r, _, 0, _, rfl, rfl, SqL.of pd.hr, rfl, .inl ⟨rfl, _, SqL.of hs⟩, fun x' dx nx nd _ => make4 (t := 1) (b := 1) (by decide) nx nd fun G2 s2 _ => ⟨rfl, rs, xs, _, rfl, rfl, s2 _ _ hs, small1000 (by omega), ?_⟩⟩
      obtain ⟨f', b'⟩ := up (o := .lst (xs ++ [.ref x'])) nrs (fG.same s2) (bG.trans (Same.but s2))
      refine ⟨rfl, f', b', .inl ⟨by omega, _, _, _, _, ?_, pd.shL (ys := ys) (H' := upd G2 rs (.lst (xs ++ [.ref x']))) (fun c zs h1 h2 h => ?_) upd_same ?_, ?_, ?_⟩⟩
      · rw [upd_ne pd.d8.1]; exact s2 _ _ pd.hr
      · rw [upd_ne h1]; exact s2 _ _ h
      · rw [upd_ne pd.d1.symm]; exact s2 _ _ he
      · exact ⟨by show (xs ++ [_]).length ≤ 1000; rw [List.length_append, List.length_singleton]; omega, kk1, by show ys.length ≤ 1000; omega, fun _ => nn1⟩
      · exact fit_ends (by show ys.length ≠ (xs ++ [_]).length; rw [List.length_append, List.length_singleton]; omega)
    rintro σ' G ⟨rfl, fG, bG, st⟩
    refine ⟨SpJ C a cl q r rs rt re sa ra m kd x H none 1, ?_, ?_⟩
    · refine ⟨_, rfl, rfl, _, rfl, ite2 (fun e => ?_) (fun e => ⟨rfl, fG, bG, spj_next e (by decide) st⟩)⟩
      have e := spj_eq e
      have pd := spj_at e (by decide) st
      obtain ⟨⟨xs, hs, ls⟩, ys, he, le⟩ := pd.lns
      refine ⟨_, rfl, r, _, 2, _, rfl, rfl, SqL.of pd.hr, rfl, .inl ⟨rfl, _, SqL.of he⟩, fun x' dx nx nd _ => make4 (t := 0) (b := 1) (by decide) nx nd fun G2 s2 _ => ⟨rfl, re, ys, _, rfl, rfl, s2 _ _ he, small1000 (by omega), ?_⟩⟩
      obtain ⟨f', b'⟩ := up (o := .lst (ys ++ [.ref x'])) nre (fG.same s2) (bG.trans (Same.but s2))
      refine ⟨rfl, f', b', .inl ⟨by omega, _, _, _, _, ?_, pd.shL (xs := xs) (H' := upd G2 re (.lst (ys ++ [.ref x']))) (fun c zs h1 h2 h => ?_) ?_ upd_same, ?_, ?_⟩⟩
      · rw [upd_ne pd.d8.2.2]; exact s2 _ _ pd.hr
      · rw [upd_ne h2]; exact s2 _ _ h
      · rw [upd_ne pd.d1]; exact s2 _ _ hs
      · exact ⟨by show xs.length ≤ 1000; omega, kk1, by show (ys ++ [_]).length ≤ 1000; rw [List.length_append, List.length_singleton]; omega, fun _ => nn1⟩
      · exact fit_ends (by show (ys ++ [_]).length ≠ xs.length; rw [List.length_append, List.length_singleton]; omega)
    rintro σ' G ⟨rfl, fG, bG, st⟩
    refine ⟨SpJ C a cl q r rs rt re sa ra m kd x H none 2, ?_, ?_⟩
    · refine ⟨_, rfl, rfl, _, rfl, ite2 (fun e => ?_) (fun e => ⟨rfl, fG, bG, spj_next e (by decide) st⟩)⟩
      have e := spj_eq e
      have pd := spj_at e (by decide) st
      obtain ⟨⟨xs, hs, ls⟩, ys, he, le⟩ := pd.lns
      refine ⟨_, rfl, r, _, 0, _, rfl, rfl, SqL.of pd.hr, rfl, .inl ⟨rfl, _, SqL.of hs⟩, fun x' dx nx nd _ => make4 (t := 1) (b := 1) (by decide) nx nd fun G2 s2 _ => ⟨rfl, rs, xs, _, rfl, rfl, s2 _ _ hs, small1000 (by omega), ?_⟩⟩
      obtain ⟨f', b'⟩ := up (o := .lst (xs ++ [.ref x'])) nrs (fG.same s2) (bG.trans (Same.but s2))
      have hr' : (upd G2 rs (.lst (xs ++ [.ref x']))) r = some (.lst [.ref rs, .ref rt, .ref re]) := by rw [upd_ne pd.d8.1]; exact s2 _ _ pd.hr
      have he' : (upd G2 rs (.lst (xs ++ [.ref x']))) re = some (.lst ys) := by rw [upd_ne pd.d1.symm]; exact s2 _ _ he
      have hs' : (upd G2 rs (.lst (xs ++ [.ref x']))) rs = some (.lst (xs ++ [.ref x'])) := upd_same
      have ko : ∀ c zs, c ≠ rs → c ≠ re → G c = some (.lst zs) → (upd G2 rs (.lst (xs ++ [.ref x']))) c = some (.lst zs) := fun c zs h1 h2 h => by rw [upd_ne h1]; exact s2 _ _ h
      generalize upd G2 rs (.lst (xs ++ [.ref x'])) = G3 at *
      refine ⟨_, rfl, r, _, 2, _, rfl, rfl, SqL.of hr', rfl, .inl ⟨rfl, _, SqL.of he'⟩, fun x2 dx2 nx2 nd2 _ => make4 (t := 2) (b := 1) (by decide) nx2 nd2 fun G4 s4 _ => ⟨rfl, re, ys, _, rfl, rfl, s4 _ _ he', small1000 (by omega), ?_⟩⟩
      obtain ⟨f5, b5⟩ := up (o := .lst (ys ++ [.ref x2])) nre (f'.same s4) (b'.trans (Same.but s4))
      refine ⟨rfl, f5, b5, .inl ⟨by omega, _, _, _, _, ?_, pd.shL (H' := upd G4 re (.lst (ys ++ [.ref x2]))) (fun c zs h1 h2 h => ?_) (xs := xs ++ [.ref x']) ?_ upd_same, ?_, ?_⟩⟩
      · rw [upd_ne pd.d8.2.2]; exact s4 _ _ hr'
      · rw [upd_ne h2]; exact s4 _ _ (ko _ _ h1 h2 h)
      · rw [upd_ne pd.d1]; exact s4 _ _ hs'
      · exact ⟨by show (xs ++ [_]).length ≤ 1000; rw [List.length_append, List.length_singleton]; omega, kk1, by show (ys ++ [_]).length ≤ 1000; rw [List.length_append, List.length_singleton]; omega, fun _ => nn1⟩
      · exact fit_step (x := 0) (show 0 < m.k from k1) (.inl (by show m.n ≠ (xs ++ [_]).length; rw [List.length_append, List.length_singleton]; omega))
    rintro σ' G ⟨rfl, fG, bG, st⟩
    refine ⟨SpJ C a cl q r rs rt re sa ra m kd x H none 3, ?_, ?_⟩
    · refine ⟨_, rfl, rfl, _, rfl, ite2 (fun e => ?_) (fun e => ⟨rfl, fG, bG, spj_next e (by decide) st⟩)⟩
      have e := spj_eq e
      have pd := spj_at e (by decide) st
      have hqG : At C N G (.ref q) (partsD m) := hq.keep (Keep.but bG na fG.there)
      refine ⟨_, rfl, r, _, 1, _, rfl, rfl, SqL.of pd.hr, rfl, .inl ⟨rfl, _, SqL.of pd.t⟩, _, rfl, N, q, m, rfl, hqG, k1, k4, by omega, fun r2 rs2 rt2 re2 sa2 ra2 G2 s2 pd2 => ?_⟩
      refine ⟨r2, _, 1, _, rfl, rfl, SqL.of pd2.hr, rfl, _, rfl, rt2, _, (x : Int), _, rfl, rfl, SqL.of pd2.t, at_of rfl (refs_at xk), ?_⟩
      refine ⟨rt, _, _, rfl, rfl, s2 _ _ pd.t, by rw [refs_len]; exact small1000 (by omega), ?_⟩
      obtain ⟨f', b'⟩ := up (o := .lst (refs m.k sa ++ [.ref (sa2 x)])) nrt (fG.same s2) (bG.trans (Same.but s2))
      have kx : KLx rt G (upd G2 rt (.lst (refs m.k sa ++ [.ref (sa2 x)]))) := (KLx.same s2).trans KLx.upd
      refine ⟨rfl, f', b', .inl ⟨by omega, _, _, _, _, ?_, pd.shT (H' := upd G2 rt (.lst (refs m.k sa ++ [.ref (sa2 x)]))) kx upd_same (fun y hy => ?_), ?_, ?_⟩⟩
      · rw [upd_ne pd.d8.2.1]; exact s2 _ _ pd.hr
      · rw [List.length_append, refs_len, List.length_singleton] at hy
        by_cases ey : y < m.k
        · exact ⟨_, by rw [List.getElem?_append_left (by rw [refs_len]; exact ey)]; exact refs_at ey, pd.stepsT kx y ey⟩
        · have : y = (refs m.k sa).length := by rw [refs_len]; omega
          subst this
          refine ⟨_, List.getElem?_concat_length, pd2.stepsN (fun c zs h0 h => ?_) x xk⟩
          rw [upd_ne (fun z => by rw [z] at h0; rw [pd.t] at h0; cases h0)]
          exact h
      · exact ⟨nn1, by show (refs m.k sa ++ [_]).length ≤ 1000; rw [List.length_append, refs_len, List.length_singleton]; omega, nn1, fun _ => nn1⟩
      · exact fit_many (by show (((refs m.k sa ++ [_]).length : Nat) : Int) ≠ _; rw [List.length_append, refs_len, List.length_singleton]; omega)
    rintro σ' G ⟨rfl, fG, bG, st⟩
    refine ⟨SpJ C a cl q r rs rt re sa ra m kd x H none 4, ?_, ?_⟩
    · refine ⟨_, rfl, rfl, _, rfl, ite2 (fun e => ?_) (fun e => ⟨rfl, fG, bG, spj_next e (by decide) st⟩)⟩
      have e := spj_eq e
      have pd := spj_at e (by decide) st
      obtain ⟨y, hy⟩ := last_at (xs := refs m.k sa) (by rw [refs_len]; omega)
      refine ⟨_, rfl, r, _, 1, _, rfl, rfl, SqL.of pd.hr, rfl, .inl ⟨rfl, _, SqL.of pd.t⟩, rt, _, y, rfl, rfl, pd.t, hy, ?_⟩
      obtain ⟨f', b'⟩ := up (o := .lst (refs m.k sa).dropLast) nrt fG bG
      have kx : KLx rt G (upd G rt (.lst (refs m.k sa).dropLast)) := KLx.upd
      refine ⟨rfl, f', b', .inl ⟨by omega, _, _, _, _, ?_, pd.shT (H' := upd G rt (.lst (refs m.k sa).dropLast)) kx upd_same (fun y hy => ?_), ?_, ?_⟩⟩
      · rw [upd_ne pd.d8.2.1]; exact pd.hr
      · rw [List.length_dropLast, refs_len] at hy
        exact ⟨_, refs_drop hy, pd.stepsT kx y (by omega)⟩
      · exact ⟨nn1, by show (refs m.k sa).dropLast.length ≤ 1000; rw [List.length_dropLast, refs_len]; omega, nn1, fun _ => nn1⟩
      · exact fit_many (by show (((refs m.k sa).dropLast.length : Nat) : Int) ≠ _; rw [List.length_dropLast, refs_len]; omega)
    rintro σ' G ⟨rfl, fG, bG, st⟩
    refine ⟨SpJ C a cl q r rs rt re sa ra m kd x H none 5, ?_, ?_⟩
    · refine ⟨_, rfl, rfl, _, rfl, ite2 (fun e => ?_) (fun e => ⟨rfl, fG, bG, spj_next e (by decide) st⟩)⟩
      have e := spj_eq e
      have pd := spj_at e (by decide) st
      refine ⟨_, rfl, r, _, 1, _, rfl, rfl, SqL.of pd.hr, rfl, _, rfl, rt, _, (x : Int), _, rfl, rfl, SqL.of pd.t, at_of rfl (refs_at xk), .inl ⟨rfl, _, SqL.of (pd.st x xk)⟩, ?_⟩
      refine ⟨_, rfl, _, rfl, _, _, rfl, rfl, a, cl, (m.n : Int) + 1, rfl, fG, by omega, by omega, fun y G2 y0 y1 f2 b2 => ?_⟩
      refine ⟨_, rfl, _, rfl, by omega, by omega, fun D nD => ?_⟩
      have pd2 := pd.keep (H' := G2) (Keep.but b2 aAl f2.there)
      obtain ⟨Da, Dc⟩ := f2.ne_new nD
      refine lc_it (walk_range (lo := 0) (n := m.n)) (fun i G' => ∃ acc, G' D = some (.lst acc) ∧ acc.length = i ∧ Same G2 G') ⟨[], upd_same, rfl, Same.upd nD⟩ (fun _ _ _ _ => trivial) ?_ ?_
      · rintro i v G3 G4 hi ⟨acc, hacc, lacc, s3⟩ ⟨rfl, rfl⟩
        refine ⟨rfl, fun x' dx nx nd _ => make4 (t := 1) (b := 1) (by decide) nx nd fun G5 s5 _ => ⟨rfl, acc, s5 _ _ hacc, by rw [lacc]; exact small1000 (by omega), acc ++ [.ref x'], upd_same, by rw [List.length_append, lacc]; rfl, fun c o hc => ?_⟩⟩
        rw [upd_ne (ne_of_none hc nD)]
        exact s5 _ _ (s3 _ _ hc)
      · rintro G3 ⟨acc, hacc, lacc, s3⟩
        have bG3 := (bG.trans b2).trans (Same.but s3)
        have nD0 : H D = none := bG.trans b2 |>.free nD f2
        have pd3 := pd2.keep (H' := G3) (Same.keep s3)
        refine ⟨sa x, refs m.n (ra x), y, _, rfl, rfl, pd3.st x xk, by rw [refs_len]; exact small1000 (by omega), y0, by omega, ?_⟩
        obtain ⟨f', b'⟩ := up (o := .lst ((refs m.n (ra x)).take y.toNat ++ [.ref D] ++ (refs m.n (ra x)).drop y.toNat)) nsa (f2.same s3) bG3
        have Ds : D ≠ sa x := fun z => by rw [z, pd2.st x xk] at nD; cases nD
        have len : ((refs m.n (ra x)).take y.toNat ++ [V.ref D] ++ (refs m.n (ra x)).drop y.toNat).length = m.n + 1 := by
          rw [List.length_append, List.length_append, List.length_take, List.length_drop, refs_len, List.length_singleton]
          omega
        refine ⟨rfl, f', b', .inl ⟨by omega, _, _, _, _, ?_, pd3.shS xk (H' := upd G3 (sa x) (.lst ((refs m.n (ra x)).take y.toNat ++ [.ref D] ++ (refs m.n (ra x)).drop y.toNat))) KLx.upd upd_same (fun i hi => ?_), ?_, ?_⟩⟩
        · rw [upd_ne (pd3.d9 x xk).1]; exact pd3.hr
        · have all : ∀ v, v ∈ (refs m.n (ra x)).take y.toNat ++ [V.ref D] ++ (refs m.n (ra x)).drop y.toNat → RowL (upd G3 (sa x) (.lst ((refs m.n (ra x)).take y.toNat ++ [.ref D] ++ (refs m.n (ra x)).drop y.toNat))) v m.n := fun v hv => by
            have old : v ∈ refs m.n (ra x) → RowL (upd G3 (sa x) (.lst ((refs m.n (ra x)).take y.toNat ++ [.ref D] ++ (refs m.n (ra x)).drop y.toNat))) v m.n := fun hv => by
              unfold refs at hv
              obtain ⟨i', hi', rfl⟩ := List.mem_map.mp hv
              have hi' := List.mem_range.mp hi'
              obtain ⟨zs, hz, lz⟩ := pd3.row xk hi'
              exact ⟨_, zs, rfl, by rw [upd_ne (pd3.d7 x xk x xk i' hi').symm]; exact hz, lz⟩
            rcases List.mem_append.mp hv with hv | hv
            · rcases List.mem_append.mp hv with hv | hv
              · exact old (List.mem_of_mem_take hv)
              · rw [List.mem_singleton.mp hv]
                exact ⟨D, acc, rfl, by rw [upd_ne Ds]; exact hacc, lacc⟩
            · exact old (List.mem_of_mem_drop hv)
          exact ⟨_, List.getElem?_eq_getElem hi, all _ (List.getElem_mem hi)⟩
        · exact ⟨nn1, kk1, nn1, fun y' => by show (if sa y' = sa x then _ else m.n) ≤ 1000; rw [len]; split <;> omega⟩
        · exact fit_step (x := x) xk (.inl (by show (if sa x = sa x then _ else m.n) ≠ m.n; rw [if_pos rfl, len]; omega))
    rintro σ' G ⟨rfl, fG, bG, st⟩
    refine ⟨fun σ' G => ∃ o6, SpJ C a cl q r rs rt re sa ra m kd x H o6 9 σ' G, ?_, ?_⟩
    · refine ⟨_, rfl, _, _, rfl, rfl, _, rfl, ite2 (fun e5 => ?_) (fun e5 => ?_)⟩
      rotate_left
      · have e5 : ¬ kd > 5 := fun z => e5 (decide_eq_true z)
        rcases st with ⟨_, d⟩ | ⟨z, _⟩
        · exact ⟨none, rfl, fG, bG, .inl ⟨by omega, d⟩⟩
        · omega
      have e5 : kd > 5 := of_decide_eq_true e5
      have n0 : 0 < m.n := by omega
      refine ⟨_, rfl, _, _, rfl, rfl, _, rfl, itT (decide_eq_true (by omega)) ?_⟩
      have pd := (show Psd C H G r rs rt re sa ra m by rcases st with ⟨z, _⟩ | ⟨_, p⟩; omega; exact p)
      refine ⟨_, rfl, _, rfl, a, cl, (m.n : Int), rfl, fG, by omega, by omega, fun dp G2 p0 p1 f2 b2 => ?_⟩
      obtain ⟨pl, rfl⟩ : ∃ p : Nat, dp = (p : Int) := ⟨dp.toNat, by omega⟩
      have pln : pl < m.n := by omega
      have pd := pd.keep (H' := G2) (Keep.but b2 aAl f2.there)
      have bG := bG.trans b2
      have fG := f2
      have nrw := nra pl pln
      have st : (kd ≤ 5 ∧ Done G2 r m.k) ∨ (5 < kd ∧ Psd C H G2 r rs rt re sa ra m) := .inr ⟨by omega, pd⟩
      clear pd
      refine ⟨SpJ C a cl q r rs rt re sa ra m kd x H (some (.int (pl : Int))) 6, ?_, ?_⟩
      · refine ⟨_, rfl, rfl, _, rfl, ite2 (fun e => ?_) (fun e => ⟨rfl, fG, bG, spj_next e (by decide) st⟩)⟩
        have e := spj_eq e
        have pd := spj_at e (by decide) st
        refine ⟨_, rfl, r, _, 1, _, rfl, rfl, SqL.of pd.hr, rfl, _, rfl, rt, _, (x : Int), _, rfl, rfl, SqL.of pd.t, at_of rfl (refs_at xk), .inl ⟨rfl, _, SqL.of (pd.st x xk)⟩, _, rfl, ?_⟩
        refine ⟨sa x, refs m.n (ra x), (pl : Int), pl, _, rfl, rfl, pd.st x xk, by omega, by omega, ?_, refs_at pln, ?_⟩
        · rw [refs_len]
          exact seqIx pln
        obtain ⟨f', b'⟩ := up (o := .lst ((refs m.n (ra x)).eraseIdx pl)) nsa fG bG
        have len : ((refs m.n (ra x)).eraseIdx pl).length = m.n - 1 := by
          rw [List.length_eraseIdx_of_lt (by rw [refs_len]; exact pln), refs_len]
        refine ⟨rfl, f', b', .inl ⟨by omega, _, _, _, _, ?_, pd.shS xk (H' := upd _ (sa x) (.lst ((refs m.n (ra x)).eraseIdx pl))) KLx.upd upd_same (fun i hi => ?_), ?_, ?_⟩⟩
        · rw [upd_ne (pd.d9 x xk).1]; exact pd.hr
        · rw [len] at hi
          have lt : (if i < pl then i else i + 1) < m.n := by split <;> omega
          obtain ⟨zs, hz, lz⟩ := pd.row xk lt
          exact ⟨_, refs_erase hi pln, _, zs, rfl, by rw [upd_ne (pd.d7 x xk x xk _ lt).symm]; exact hz, lz⟩
        · exact ⟨nn1, kk1, nn1, fun y' => by show (if sa y' = sa x then _ else m.n) ≤ 1000; rw [len]; split <;> omega⟩
        · exact fit_step (x := x) xk (.inl (by show (if sa x = sa x then _ else m.n) ≠ m.n; rw [if_pos rfl, len]; omega))
      rintro σ' G ⟨rfl, fG, bG, st⟩
      refine ⟨SpJ C a cl q r rs rt re sa ra m kd x H (some (.int (pl : Int))) 7, ?_, ?_⟩
      · refine ⟨_, rfl, rfl, _, rfl, ite2 (fun e => ?_) (fun e => ⟨rfl, fG, bG, spj_next e (by decide) st⟩)⟩
        have e := spj_eq e
        have pd := spj_at e (by decide) st
        obtain ⟨zs, hz, lz⟩ := pd.row xk pln
        refine ⟨_, rfl, r, _, 1, _, rfl, rfl, SqL.of pd.hr, rfl, _, rfl, rt, _, (x : Int), _, rfl, rfl, SqL.of pd.t, at_of rfl (refs_at xk), _, rfl, sa x, _, (pl : Int), _, rfl, rfl, SqL.of (pd.st x xk), at_of rfl (refs_at pln), .inl ⟨rfl, _, SqL.of hz⟩, fun x' dx nx nd _ => make4 (t := 0) (b := 1) (by decide) nx nd fun G2 s2 _ => ⟨rfl, ra x pl, zs, _, rfl, rfl, s2 _ _ hz, small1000 (by omega), ?_⟩⟩
        obtain ⟨f', b'⟩ := up (o := .lst (zs ++ [.ref x'])) nrw (fG.same s2) (bG.trans (Same.but s2))
        refine ⟨rfl, f', b', .inl ⟨by omega, _, _, _, _, ?_, pd.shR xk pln (H' := upd G2 (ra x pl) (.lst (zs ++ [.ref x']))) ((KLx.same s2).trans KLx.upd) upd_same, ⟨nn1, kk1, nn1, fun _ => nn1⟩, ?_⟩⟩
        · rw [upd_ne ((pd.d9 x xk).2 pl pln)]; exact s2 _ _ pd.hr
        · exact fit_step (x := x) xk (.inr ⟨pl, pln, by show (if ra x pl = ra x pl then _ else m.n) ≠ m.n; rw [if_pos rfl, List.length_append, List.length_singleton]; omega⟩)
      rintro σ' G ⟨rfl, fG, bG, st⟩
      refine ⟨SpJ C a cl q r rs rt re sa ra m kd x H (some (.int (pl : Int))) 8, ?_, ?_⟩
      · refine ⟨_, rfl, rfl, _, rfl, ite2 (fun e => ?_) (fun e => ⟨rfl, fG, bG, spj_next e (by decide) st⟩)⟩
        have e := spj_eq e
        have pd := spj_at e (by decide) st
        obtain ⟨zs, hz, lz⟩ := pd.row xk pln
        obtain ⟨y, hy⟩ := last_at (xs := zs) (by omega)
        refine ⟨_, rfl, r, _, 1, _, rfl, rfl, SqL.of pd.hr, rfl, _, rfl, rt, _, (x : Int), _, rfl, rfl, SqL.of pd.t, at_of rfl (refs_at xk), _, rfl, sa x, _, (pl : Int), _, rfl, rfl, SqL.of (pd.st x xk), at_of rfl (refs_at pln), .inl ⟨rfl, _, SqL.of hz⟩, ra x pl, zs, y, rfl, rfl, hz, hy, ?_⟩
        obtain ⟨f', b'⟩ := up (o := .lst zs.dropLast) nrw fG bG
        refine ⟨rfl, f', b', .inl ⟨by omega, _, _, _, _, ?_, pd.shR xk pln (H' := upd _ (ra x pl) (.lst zs.dropLast)) KLx.upd upd_same, ⟨nn1, kk1, nn1, fun _ => nn1⟩, ?_⟩⟩
        · rw [upd_ne ((pd.d9 x xk).2 pl pln)]; exact pd.hr
        · exact fit_step (x := x) xk (.inr ⟨pl, pln, by show (if ra x pl = ra x pl then _ else m.n) ≠ m.n; rw [if_pos rfl, List.length_dropLast]; omega⟩)
      rintro σ' G ⟨rfl, fG, bG, st⟩
      refine ⟨_, rfl, rfl, _, rfl, ite2 (fun e => ?_) (fun e => ⟨_, rfl, fG, bG, spj_next e (by decide) st⟩)⟩
      have e := spj_eq e
      have pd := spj_at e (by decide) st
      obtain ⟨⟨xs, hs, ls⟩, ys, he, le⟩ := pd.lns
      obtain ⟨y, hy⟩ := last_at (xs := xs) (by omega)
      obtain ⟨y', hy'⟩ := last_at (xs := ys) (by omega)
      refine ⟨_, rfl, r, _, 0, _, rfl, rfl, SqL.of pd.hr, rfl, .inl ⟨rfl, _, SqL.of hs⟩, rs, xs, y, rfl, rfl, hs, hy, ?_⟩
      obtain ⟨f', b'⟩ := up (o := .lst xs.dropLast) nrs fG bG
      have hr' : (upd G rs (.lst xs.dropLast)) r = some (.lst [.ref rs, .ref rt, .ref re]) := by rw [upd_ne pd.d8.1]; exact pd.hr
      have he' : (upd G rs (.lst xs.dropLast)) re = some (.lst ys) := by rw [upd_ne pd.d1.symm]; exact he
      have hs' : (upd G rs (.lst xs.dropLast)) rs = some (.lst xs.dropLast) := upd_same
      have ko : ∀ c zs, c ≠ rs → c ≠ re → G c = some (.lst zs) → (upd G rs (.lst xs.dropLast)) c = some (.lst zs) := fun c zs h1 h2 h => by rw [upd_ne h1]; exact h
      generalize upd G rs (.lst xs.dropLast) = G3 at *
      refine ⟨_, rfl, r, _, 2, _, rfl, rfl, SqL.of hr', rfl, .inl ⟨rfl, _, SqL.of he'⟩, re, ys, y', rfl, rfl, he', hy', ?_⟩
      obtain ⟨f5, b5⟩ := up (o := .lst ys.dropLast) nre f' b'
      refine ⟨_, rfl, f5, b5, .inl ⟨by omega, _, _, _, _, ?_, pd.shL (H' := upd G3 re (.lst ys.dropLast)) (fun c zs h1 h2 h => ?_) (xs := xs.dropLast) ?_ upd_same, ?_, ?_⟩⟩
      · rw [upd_ne pd.d8.2.2]; exact hr'
      · rw [upd_ne h2]; exact ko _ _ h1 h2 h
      · rw [upd_ne pd.d1]; exact hs'
      · exact ⟨by show xs.dropLast.length ≤ 1000; rw [List.length_dropLast]; omega, kk1, by show ys.dropLast.length ≤ 1000; rw [List.length_dropLast]; omega, fun _ => nn1⟩
      · exact fit_step (x := 0) (show 0 < m.k from k1) (.inl (by show m.n ≠ xs.dropLast.length; rw [List.length_dropLast]; omega))
    rintro σ' G ⟨o6, rfl, fG, bG, st⟩
    rcases st with ⟨_, d⟩ | ⟨z, _⟩
    · exact ⟨_, rfl, kk r G fG bG d⟩
    · omega
end
end RX

set_option Elab.async false
set_option maxRecDepth 100000
namespace RX
open PySem L2 L2H XH LX VA
abbrev sShapes : Stmt := topS 58
theorem scShp : FnScope ["feed", "parts", "letters", "passed", "other", "five", "kind", "k"] ["feed", "parts"] (defScope sShapes) := ⟨rfl, rfl, rfl, by decide +kernel, rfl, by decide +kernel, by decide +kernel⟩
def spShp (C : Addr) : Sp := fun vs H Q _ => ∃ (N : Addr → Prop) (a cl q : Addr) (m : Mc), vs = [.ref a, .ref q] ∧ FeedAt H a cl ∧ At C N H (.ref q) (partsD m) ∧ N a ∧ 1 ≤ m.k ∧ m.k ≤ 4 ∧ m.n ≤ 4 ∧ ∀ H', FeedAt H' a cl → But a H H' → Q (.bl true) H'
def others (k : Nat) (y : Int) : List Int := [0, 5, 0 - 1, (k : Int) + 1, (k : Int) - 1, (k : Int) + 5 + y]
theorem others_bad {m : Mc} {y : Int} (k4 : m.k ≤ 4) (y0 : 0 ≤ y) : ∀ o ∈ others m.k y, (z0 m).fit o = false := by
  intro o ho
  have mk : ∀ o : Int, (m.k : Int) ≠ o → (z0 m).fit o = false := fun o h => fit_many h
  simp only [others, List.mem_cons, List.not_mem_nil, or_false] at ho
  rcases ho with rfl | rfl | rfl | rfl | rfl | rfl
  · exact fit_out (.inl (by decide))
  · exact fit_out (.inr (by decide))
  · exact fit_out (.inl (by decide))
  · exact mk _ (by omega)
  · exact mk _ (by omega)
  · exact mk _ (by omega)
section
variable {P : Program} {w : World} {K : PySem.W.Frag} {mg : Str → Option Value} {base : Heap}
set_option maxHeartbeats 1000000 in
theorem ok_shp {f fL fD fR fS C : Addr} {fd dL dD dR dS : FuncData} (F : Fun K "_law_shapes" "_law_shapes" sShapes f fd) (T : TxtL mg) (cLl : CalN P w K mg base "_law_lists" 36 ["parts"] (spLls C) fL dL) (cDr : CalN P w K mg base "_law_draw" 1 ["feed", "limit"] spDraw fD dD)
    (cRf : CalN P w K mg base "_law_refused" 5 ["letters", "passed"] spRfd fR dR) (cSp : CalN P w K mg base "_law_spoilt" 37 ["feed", "parts", "kind"] (spSpo C) fS dS) : FnOk P w K mg base CX0 38 f fd ["feed", "parts"] (spShp C) := by
  refine F.ok scShp (fun vs H Q E h => ?_) (fun cdv A outer s H vs Q E hr h => ?_)
  · obtain ⟨N, a, cl, q, m, rfl, _⟩ := h
    rfl
  · obtain ⟨N, a, cl, q, m, rfl, hF, hq, na, k1, k4, n4, kk⟩ := h
    have hr1 : Room 1 _ := hr.mono (by decide)
    have hr5 : Room 5 _ := hr.mono (by decide)
    have hr36 : Room 36 _ := hr.mono (by decide)
    have hr37 : Room 37 _ := hr
    obtain ⟨qa, qb, qc, hy, ha, hb, hc⟩ := hq.parts
    obtain ⟨xa, hxa, lxa, _⟩ := At.lstR ha
    obtain ⟨xb, hxb, lxb, _⟩ := At.lstR hb
    refine ⟨_, pss_cons (ps_set (i := 2) scShp.nd rfl (.inl rfl) (pe_callB call_len_seq (by rfl) T.len PySem.boot_len (pa_cons (pe_ix ix_list (pv 1) pe_int (fun _ _ => rfl)) pa_nil)))
      (pss_cons (ps_set (i := 3) scShp.nd rfl (.inr rfl) (pe_call cLl.G hr36 rfl cLl.m cLl.kp cLl.b .nil pass0 (pa_cons (pv 1) pa_nil)))
      (pss_cons (ps_for PassesOwn.never rfl (pi_list (pe_lst (pa_cons pe_int (pa_cons pe_int (pa_cons (pe_op op_sub pe_int pe_int) (pa_cons (pe_op op_add (pv 2) pe_int) (pa_cons (pe_op op_sub (pv 2) pe_int) (pa_cons (pe_op op_add (pe_op op_add (pv 2) pe_int) (pe_call cDr.G hr1 rfl cDr.m cDr.kp cDr.b .nil pass0 (pa_cons (pv 0) (pa_cons pe_int pa_nil)))) pa_nil)))))))) (pg_name (i := 4) scShp.nd rfl (.inl rfl))
        (pss_one (ps_if (pt_not (pt_val (pe_call cRf.G hr5 rfl cRf.m cRf.kp cRf.b .nil pass0 (pa_cons (pv 4) (pa_cons (pv 3) pa_nil)))))
          (pss_one ps_never)
          pss_nil)))
      (pss_cons (ps_setLc (i := 5) (own := [("k", 7)]) (g := gName 7) (tt := tYes) rfl scShp.nd rfl rfl (sw_true rfl rfl rfl (by decide +kernel)) (pi_range1 (by rfl) T.range (pa_cons pe_int pa_nil)) (blkOk_by (N := ["feed", "parts", "letters", "passed", "other", "five", "kind", "k"]) (sc := (defScope sShapes)) (by decide +kernel)) (fun _ _ _ _ _ => (pg_name (i := 7) scShp.nd rfl (.inl rfl))) (fun _ _ _ _ _ => pts_nil) (fun _ _ _ _ _ => (pe_ix (show IxR _ (rIxL K) from ix_list) (pe_ix (show IxR _ (rIxL K) from ix_list) (pv 3) pe_int (fun _ _ => rfl)) pe_int (fun _ _ => rfl))))
      (pss_cons (ps_if (PW.pt (pw_or (pt_not (pt_val (pe_call cRf.G hr5 rfl cRf.m cRf.kp cRf.b .nil pass0 (pa_cons pe_int (pa_cons (pe_lst (pa_cons (pe_ix ix_list (pv 3) pe_int (fun _ _ => rfl)) (pa_cons (pv 5) (pa_cons (pe_ix ix_list (pv 3) pe_int (fun _ _ => rfl)) pa_nil)))) pa_nil))))) (pw_or1 (pt_not (pt_val (pe_call cRf.G hr5 rfl cRf.m cRf.kp cRf.b .nil pass0 (pa_cons pe_int (pa_cons (pe_lst (pa_cons (pe_ix ix_list (pv 3) pe_int (fun _ _ => rfl)) (pa_cons (pe_lst pa_nil) (pa_cons (pe_ix ix_list (pv 3) pe_int (fun _ _ => rfl)) pa_nil)))) pa_nil))))))))
        (pss_one ps_never)
        pss_nil)
      (pss_cons (ps_for PassesOwn.never rfl (pi_range1 (by rfl) T.range (pa_cons pe_int pa_nil)) (pg_name (i := 6) scShp.nd rfl (.inl rfl))
        (pss_one (ps_if (PW.pt (pw_or (pt_cmpR op_gt (pe_callB call_len_seq (by rfl) T.len PySem.boot_len (pa_cons (pe_ix ix_list (pv 1) pe_int (fun _ _ => rfl)) pa_nil)) pe_int (nomark _)) (pw_or1 (pt_cmpR op_lt (pv 6) pe_int (nomark _)))))
          (pss_one (ps_if (pt_not (pt_val (pe_call cRf.G hr5 rfl cRf.m cRf.kp cRf.b .nil pass0 (pa_cons (pv 2) (pa_cons (pe_call cSp.G hr37 rfl cSp.m cSp.kp cSp.b .nil pass0 (pa_cons (pv 0) (pa_cons (pv 1) (pa_cons (pv 6) pa_nil)))) pa_nil)))))
            (pss_one ps_never)
            pss_nil))
          pss_nil)))
      (pss_one (ps_ret pe_bl))))))), ?_⟩
    refine ⟨_, rfl, q, _, 1, _, rfl, rfl, SqL.of hy, rfl, qb, xb, rfl, .inl (SqL.of hxb), ?_⟩
    rw [lxb]
    refine ⟨_, rfl, N, q, m, rfl, hq, k1, k4, by omega, fun r rs rt re sa ra H1 s1 pd1 => ?_⟩
    refine ⟨_, _, rfl, rfl, _, rfl, _, _, rfl, rfl, _, rfl, _, _, rfl, rfl, _, rfl, _, _, rfl, rfl, _, rfl, a, cl, 99, rfl, hF.same s1, by decide, by decide, fun y G y0 y1 fG bG => ⟨_, _, rfl, rfl, ?_⟩⟩
    have bG : But a H G := (Same.but s1).trans bG
    have aAl : Al H a := hF.there
    have pd := pd1.keep (H' := G) (Keep.but (by assumption) aAl fG.there)
    refine ⟨(by show 6 ≤ sizeLine; decide), fun ol nol => ?_⟩
    have sO : Same G (upd G ol (.lst [V.int 0, V.int 5, V.int (0 - 1), V.int ((m.k : Int) + 1), V.int ((m.k : Int) - 1), V.int ((m.k : Int) + 5 + y)])) := Same.upd nol
    have hO : (upd G ol (.lst [V.int 0, V.int 5, V.int (0 - 1), V.int ((m.k : Int) + 1), V.int ((m.k : Int) - 1), V.int ((m.k : Int) + 5 + y)])) ol = some (.lst ((others m.k y).map V.int)) := upd_same
    generalize upd G ol (.lst [V.int 0, V.int 5, V.int (0 - 1), V.int ((m.k : Int) + 1), V.int ((m.k : Int) - 1), V.int ((m.k : Int) + 5 + y)]) = G1 at *
    have pd := pd.keep (Same.keep sO)
    have bad := others_bad (m := m) (y := y) k4 y0
    have kk1 : m.k ≤ 1000 := by omega
    have nn1 : m.n ≤ 1000 := by omega
    refine ⟨ol, rfl, ⟨_, SqL.of hO⟩, for_list (K := K) (a := ol) (xs := (others m.k y).map V.int) (fun _ σ G' => ∃ o4, σ = [some (.ref a), some (.ref q), some (.int (m.k : Int)), some (.ref r), o4, none, none, none] ∧ Same G1 G') ⟨_, rfl, Same.refl _⟩ (fun i σ H' _ h => by obtain ⟨_, _, s⟩ := h; exact SqL.of (s _ _ hO)) ?_ ?_⟩
    · rintro i v σ G2 hv ⟨o4, rfl, s2⟩
      obtain ⟨o, ho, rfl⟩ := List.mem_map.mp (List.mem_of_getElem? hv)
      refine ⟨_, rfl, _, rfl, o, r, _, _, _, z0 m, rfl, s2 _ _ pd.hr, pd.sh.keep (KL.same s2), z0_ok n4 k4, bad o ho, fun G3 s3 => ⟨true, rfl, iteF ⟨_, rfl, s2.trans s3⟩⟩⟩
    · rintro σ G2 ⟨o4, rfl, s2⟩
      have pd := pd.keep (Same.keep s2)
      have fG2 := fG.same (sO.trans s2)
      have bG2 := bG.trans (Same.but (sO.trans s2))
      refine ⟨5, rfl, by decide, by decide, fun D nD => ?_⟩
      refine lc_it (walk_range (lo := 0) (n := 5)) (fun i G' => G' D = some (.lst (List.replicate i (.ref (sa 0)))) ∧ Same G2 G') ⟨upd_same, Same.upd nD⟩ (fun _ _ _ _ => trivial) ?_ ?_
      · rintro i v G3 G4 hi ⟨hD, s3⟩ ⟨rfl, rfl⟩
        refine ⟨rfl, _, rfl, r, _, 1, _, rfl, rfl, SqL.of (s3 _ _ pd.hr), rfl, rt, _, 0, _, rfl, rfl, SqL.of (s3 _ _ pd.t), at_of (j := 0) rfl (refs_at k1), ?_⟩
        refine ⟨_, hD, by rw [List.length_replicate]; exact small1000 (by omega), ?_, fun c o hc => ?_⟩
        · rw [upd_same, List.replicate_succ']
        · rw [upd_ne (ne_of_none hc nD)]
          exact s3 _ _ hc
      rintro G3 ⟨hD, s3⟩
      have pd3 := pd.keep (Same.keep s3)
      have sh3 := pd3.sh
      refine ⟨_, rfl, r, _, 0, _, rfl, rfl, SqL.of pd3.hr, rfl, _, rfl, _, rfl, r, _, 2, _, rfl, rfl, SqL.of pd3.hr, rfl, (by show 3 ≤ sizeLine; decide), fun l nl => ?_⟩
      have s4 : Same G3 (upd G3 l (.lst [.ref rs, .ref D, .ref re])) := Same.upd nl
      have hl : (upd G3 l (.lst [.ref rs, .ref D, .ref re])) l = some (.lst [.ref rs, .ref D, .ref re]) := upd_same
      generalize upd G3 l (.lst [.ref rs, .ref D, .ref re]) = G4 at *
      have pd4 := pd3.keep (Same.keep s4)
      have sh4 := pd4.sh
      have shF : ShL G4 (.ref rs) (.ref D) (.ref re) { z0 m with kt := 5 } := ⟨sh4.s, sh4.e, D, _, rfl, s4 _ _ hD, List.length_replicate, fun x hx => ⟨.ref (sa 0), by rw [List.getElem?_replicate, if_pos hx], pd4.steps (fun c xs _ _ h => h) 0 k1⟩⟩
      refine ⟨5, l, _, _, _, { z0 m with kt := 5 }, rfl, hl, shF, ⟨nn1, by show 5 ≤ 1000; decide, nn1, fun _ => nn1⟩, fit_out (.inr (by decide)), fun G5 s5 => ⟨true, rfl, iteF ?_⟩⟩
      have pd5 := pd4.keep (Same.keep s5)
      refine ⟨_, rfl, r, _, 0, _, rfl, rfl, SqL.of pd5.hr, rfl, (by show 0 ≤ sizeLine; decide), fun e ne => ?_⟩
      have s6 : Same G5 (upd G5 e (.lst [])) := Same.upd ne
      have he : (upd G5 e (.lst [])) e = some (.lst []) := upd_same
      generalize upd G5 e (.lst []) = G6 at *
      have pd6 := pd5.keep (Same.keep s6)
      refine ⟨_, rfl, r, _, 2, _, rfl, rfl, SqL.of pd6.hr, rfl, (by show 3 ≤ sizeLine; decide), fun l2 nl2 => ?_⟩
      have s7 : Same G6 (upd G6 l2 (.lst [.ref rs, .ref e, .ref re])) := Same.upd nl2
      have hl2 : (upd G6 l2 (.lst [.ref rs, .ref e, .ref re])) l2 = some (.lst [.ref rs, .ref e, .ref re]) := upd_same
      generalize upd G6 l2 (.lst [.ref rs, .ref e, .ref re]) = G7 at *
      have pd7 := pd6.keep (Same.keep s7)
      have sh7 := pd7.sh
      have shE : ShL G7 (.ref rs) (.ref e) (.ref re) { z0 m with kt := 0 } := ⟨sh7.s, sh7.e, e, _, rfl, s7 _ _ he, rfl, fun x hx => absurd hx (by show ¬ x < 0; omega)⟩
      refine ⟨0, l2, _, _, _, { z0 m with kt := 0 }, rfl, hl2, shE, ⟨nn1, by show 0 ≤ 1000; decide, nn1, fun _ => nn1⟩, fit_out (.inl (by decide)), fun G8 s8 => ⟨true, rfl, iteF ?_⟩⟩
      have s28 := s3.trans (s4.trans (s5.trans (s6.trans (s7.trans s8))))
      refine ⟨10, rfl, by decide, by decide, for_range (n := 10) (fun i σ G' => ∃ o6, σ = [some (.ref a), some (.ref q), some (.int (m.k : Int)), some (.ref r), o4, some (.ref D), o6, none] ∧ FeedAt G' a cl ∧ But a H G') ⟨none, rfl, fG2.same s28, bG2.trans (Same.but s28)⟩ ?_ ?_⟩
      · rintro i σ G' hi ⟨o6, rfl, f', b'⟩
        have kp : Keep N H G' := Keep.but b' na f'.there
        have hq' := hq.keep kp
        obtain ⟨qa, qb, qc, hy, ha, hb, hc⟩ := hq'.parts
        obtain ⟨xa, hxa, lxa, _⟩ := At.lstR ha
        refine ⟨_, rfl, q, _, 0, _, rfl, rfl, SqL.of hy, rfl, qa, xa, rfl, .inl (SqL.of hxa), _, _, rfl, rfl, _, rfl, ?_⟩
        rw [lxa]
        by_cases n0 : 0 < m.n
        · refine itT (decide_eq_true (by omega)) ?_
          refine ⟨_, rfl, _, rfl, _, rfl, _, rfl, N, a, cl, q, m, _, rfl, f', hq', na, k1, k4, n4, by omega, by omega, .inr n0, fun r' G2 f2 b2 dn => ?_⟩
          obtain ⟨vS, vT, vE, z, h1, h2, h3, h4⟩ := dn
          exact ⟨_, r', vS, vT, vE, z, rfl, h1, h2, h3, h4, fun G3 s3 => ⟨true, rfl, iteF ⟨_, rfl, f2.same s3, b'.trans (b2.trans (Same.but s3))⟩⟩⟩
        · refine itF (decide_eq_false (by omega)) ?_
          refine ⟨_, rfl, _, _, rfl, rfl, _, rfl, ite2 (fun e => ?_) (fun e => ⟨_, rfl, f', b'⟩)⟩
          have e := of_decide_eq_true e
          refine ⟨_, rfl, _, rfl, _, rfl, _, rfl, N, a, cl, q, m, _, rfl, f', hq', na, k1, k4, n4, by omega, by omega, .inl e, fun r' G2 f2 b2 dn => ?_⟩
          obtain ⟨vS, vT, vE, z, h1, h2, h3, h4⟩ := dn
          exact ⟨_, r', vS, vT, vE, z, rfl, h1, h2, h3, h4, fun G3 s3 => ⟨true, rfl, iteF ⟨_, rfl, f2.same s3, b'.trans (b2.trans (Same.but s3))⟩⟩⟩
      · rintro σ G' ⟨o6, rfl, f', b'⟩
        exact kk G' f' b'
end
end RX

set_option Elab.async false
set_option maxRecDepth 100000
namespace RX
open PySem L2 L2H XH LX VA
open RQ (Bt)
abbrev sWhole : Stmt := inClass (topS 15) 9
abbrev sRText : Stmt := inClass (topS 15) 10
abbrev sLText : Stmt := topS 62
theorem scTt : FnScope ["one"] ["one"] (defScope sLText) := ⟨rfl, rfl, rfl, by decide +kernel, rfl, by decide +kernel, by decide +kernel⟩
abbrev sLTexts : Stmt := topS 63
theorem scTs : FnScope ["line", "one"] ["line"] (defScope sLTexts) := ⟨rfl, rfl, rfl, by decide +kernel, rfl, by decide +kernel, by decide +kernel⟩
abbrev sLPic : Stmt := topS 64
theorem scPic : FnScope ["parts", "steps", "step", "line"] ["parts"] (defScope sLPic) := ⟨rfl, rfl, rfl, by decide +kernel, rfl, by decide +kernel, by decide +kernel⟩
abbrev outPic0 : Scope := { kind := .function, names := [(".0", .local), ("step", .local), ("tuple", .globalImplicit)], isGenerator := false, isCoroutine := false }
abbrev sTexts : Stmt := topS 35
theorem scTx : FnScope ["row", "number"] ["row"] (defScope sTexts) := ⟨rfl, rfl, rfl, by decide +kernel, rfl, by decide +kernel, by decide +kernel⟩
abbrev sMPic : Stmt := inClass (topS 34) 7
theorem scMp : FnScope ["self", "steps", "step", "row"] ["self"] (defScope sMPic) := ⟨rfl, rfl, rfl, by decide +kernel, rfl, by decide +kernel, by decide +kernel⟩
abbrev outMp0 : Scope := { kind := .function, names := [(".0", .local), ("step", .local), ("tuple", .globalImplicit)], isGenerator := false, isCoroutine := false }
/-- the text of n / d -/
def txt (n d : Int) : Str := if d = 1 then toString n else (toString n ++ "/") ++ toString d
theorem txlen {x : Int} (h : Bt 140 x) : (toString x : Str).length ≤ 142 := by
  show (Str.ofString (toString x)).length ≤ 142
  rw [PySem.ofString_length]
  exact PySem.int_text_length_le (k := 141) (by decide) (Nat.lt_of_le_of_lt h.log (by decide))
theorem dint (i j : Int) : decide (V.int i = V.int j) = decide (i = j) := by
  by_cases h : i = j
  · rw [h, decide_eq_true rfl, decide_eq_true rfl]
  · rw [decide_eq_false h, decide_eq_false fun z => h (by injection z)]
def spWhole (C : Addr) : Sp := fun vs H Q _ => ∃ (p : Addr) (n d : Int), vs = [.ref p] ∧ RatAt C H p n d ∧ Q (.bl (decide (d = 1))) H
def spRText (C : Addr) : Sp := fun vs H Q _ => ∃ (p : Addr) (n d : Int), vs = [.ref p] ∧ RatAt C H p n d ∧ Bt 140 n ∧ Bt 140 d ∧ Q (.str (txt n d)) H
def spLText : Sp := fun vs H Q _ => ∃ (p : Addr) (n d : Int), vs = [.ref p] ∧ PairAt H p n d ∧ Bt 140 n ∧ Bt 140 d ∧ Q (.str (txt n d)) H
section
variable {P : Program} {w : World} {K : PySem.W.Frag} {mg : Str → Option Value} {base : Heap}
theorem scWh : FnScope ["self"] ["self"] (defScope sWhole) := ⟨rfl, rfl, rfl, by decide +kernel, rfl, by decide +kernel, by decide +kernel⟩
theorem ok_whole {f C : Addr} {fd : FuncData} (F : Fun K "is_whole" "Ratio.is_whole" sWhole f fd) (TR : TxtR K mg C) : FnOk P w K mg base CX0 1 f fd ["self"] (spWhole C) := by
  refine F.ok scWh (fun vs H Q E h => ?_) (fun cdv A outer s H vs Q E hr h => ?_)
  · obtain ⟨p, n, d, rfl, _⟩ := h
    rfl
  · obtain ⟨p, n, d, rfl, ⟨dx, hp⟩, k⟩ := h
    refine ⟨_, pss_one (ps_ret (pe_cmpR op_eq (pe_fld (pv 0) rfl) pe_int (nomark _))), ?_⟩
    refine ⟨_, rfl, p, C, dx, _, _, rfl, hp, TR.cl, TR.nB, rf_bot _ _, rfl, ?_⟩
    show Q (.bl (decide (V.int d = V.int 1))) H
    rw [dint]
    exact k
theorem scRx : FnScope ["self"] ["self"] (defScope sRText) := ⟨rfl, rfl, rfl, by decide +kernel, rfl, by decide +kernel, by decide +kernel⟩
theorem cat0 (x : Str) : Str.empty ++ x = x := by
  have e : (Str.empty ++ x).cps = x.cps := by
    rw [PySem.Str.cps_append]
    exact Array.empty_append
  cases h : Str.empty ++ x
  cases x
  rw [h] at e
  exact congrArg Str.mk e
theorem lg {x : Int} (h : Bt 140 x) : x.natAbs.log2 < 1920 := Nat.lt_of_le_of_lt h.log (by decide)
theorem ok_rtext {f fW C pw' : Addr} {fd fdW : FuncData} (F : Fun K "text" "Ratio.text" sRText f fd) (TR : TxtR K mg C) (po : PropOf K C "is_whole" pw' fW) (GW : FnOk P w K mg base CX0 1 fW fdW ["self"] (spWhole C)) (bW : Binds K fdW ["self"] []) :
    FnOk P w K mg base CX0 3 f fd ["self"] (spRText C) := by
  refine F.ok scRx (fun vs H Q E h => ?_) (fun cdv A outer s H vs Q E hr h => ?_)
  · obtain ⟨p, n, d, rfl, _⟩ := h
    rfl
  · obtain ⟨p, n, d, rfl, ⟨dx, hp⟩, tn, td, k⟩ := h
    refine ⟨_, pss_cons (ps_if (pt_val (pe_prop (pv 0) TR.cl po GW hr bW .nil pass0 rfl)) (pss_one (ps_ret (pe_joined1 (pe_fmt (pe_fld (pv 0) rfl))))) pss_nil)
      (pss_one (ps_ret (pe_joined (PJ.cons (pe_fmt (pe_fld (pv 0) rfl)) (PJ.cons pe_str (PJ.cons (pe_fmt (pe_fld (pv 0) rfl)) PJ.nil)))))), ?_⟩
    have tn' := lg tn
    have td' := lg td
    refine ⟨_, rfl, p, dx, _, rfl, hp, p, n, d, rfl, ⟨dx, hp⟩, _, rfl, ?_⟩
    refine ite2 (fun z => ?_) (fun z => ?_)
    · have z := of_decide_eq_true z
      subst z
      refine ⟨_, rfl, p, C, dx, _, _, rfl, hp, TR.cl, TR.nT, rf_top _ _, .inr ⟨n, rfl, tn', ?_⟩⟩
      exact k
    · have z : ¬ d = 1 := fun e => z (decide_eq_true e)
      have l1 := txlen tn
      have l2 := txlen td
      refine ⟨_, rfl, p, C, dx, _, _, rfl, hp, TR.cl, TR.nT, rf_top _ _, .inr ⟨n, rfl, tn', _, rfl, ?_, ?_⟩⟩
      · rw [cat0]; exact Nat.le_trans l1 (by decide)
      refine ⟨_, rfl, ?_, ?_⟩
      · rw [cat0, PySem.Str.length_append]; exact Nat.le_trans (Nat.add_le_add_right l1 _) (by decide)
      refine ⟨_, rfl, p, C, dx, _, _, rfl, hp, TR.cl, TR.nB, rf_bot _ _, .inr ⟨d, rfl, td', _, rfl, ?_, ?_⟩⟩
      · rw [cat0, PySem.Str.length_append, PySem.Str.length_append]; exact Nat.le_trans (Nat.add_le_add (Nat.add_le_add_right l1 _) l2) (by decide)
      rw [cat0]
      have e : txt n d = (toString n ++ "/") ++ toString d := if_neg z
      rw [e] at k
      exact k
theorem ok_ltext {f : Addr} {fd : FuncData} (F : Fun K "_law_text" "_law_text" sLText f fd) (TPstr : mg "str" = none) : FnOk P w K mg base CX0 1 f fd ["one"] spLText := by
  refine F.ok scTt (fun vs H Q E h => ?_) (fun cdv A outer s H vs Q E hr h => ?_)
  · obtain ⟨p, n, d, rfl, _⟩ := h
    rfl
  · obtain ⟨p, n, d, rfl, hp, tn, td, k⟩ := h
    refine ⟨_, pss_cons (ps_if (pt_cmpR op_eq (pe_ix ix_tup (pv 0) pe_int (fun _ _ => rfl)) pe_int (nomark _))
        (pss_one (ps_ret (pe_callTy call_str_int (by rfl) TPstr (by decide +kernel) (pa_cons (pe_ix ix_tup (pv 0) pe_int (fun _ _ => rfl)) pa_nil))))
        pss_nil)
      (pss_one (ps_ret (pe_op op_add_str (pe_op op_add_str (pe_callTy call_str_int (by rfl) TPstr (by decide +kernel) (pa_cons (pe_ix ix_tup (pv 0) pe_int (fun _ _ => rfl)) pa_nil)) pe_str) (pe_callTy call_str_int (by rfl) TPstr (by decide +kernel) (pa_cons (pe_ix ix_tup (pv 0) pe_int (fun _ _ => rfl)) pa_nil))))), ?_⟩
    have tn' := lg tn
    have td' := lg td
    have l1 := txlen tn
    have l2 := txlen td
    refine ⟨_, rfl, p, _, 1, _, rfl, rfl, hp.t, rfl, rfl, _, rfl, ?_⟩
    rw [dint]
    refine ite2 (fun z => ?_) (fun z => ?_)
    · have z := of_decide_eq_true z
      subst z
      exact ⟨_, rfl, p, _, 0, _, rfl, rfl, hp.t, rfl, _, rfl, tn', k⟩
    · have z : ¬ d = 1 := fun e => z (decide_eq_true e)
      refine ⟨_, rfl, p, _, 0, _, rfl, rfl, hp.t, rfl, _, rfl, tn', _, _, rfl, rfl, Nat.le_trans (Nat.add_le_add_right l1 _) (by decide), _, rfl, p, _, 1, _, rfl, rfl, hp.t, rfl, _, rfl, td', _, _, rfl, rfl, ?_, ?_⟩
      · rw [PySem.Str.length_append]; exact Nat.le_trans (Nat.add_le_add (Nat.add_le_add_right l1 _) l2) (by decide)
      · have e : txt n d = (toString n ++ "/") ++ toString d := if_neg z
        rw [e] at k
        exact k
end
def textsD (n : Nat) (u : Nat → Rat) : Dat := .tup (rng n fun j => .str (txt (u j).num ((u j).den : Int)))
def picD (m : Mc) : Dat := .tup [.int (m.k : Int), textsD m.n m.s, .tup (rng m.k fun x => .tup (rng m.n fun i => textsD m.n (m.t x i))), textsD m.n m.e]
def spTx (C : Addr) : Sp := fun vs H Q _ => ∃ (N : Addr → Prop) (p : Addr) (n : Nat) (u : Nat → Rat), vs = [.ref p] ∧ At C N H (.ref p) (ratR n u) ∧ Alc N H ∧ n ≤ 1000 ∧ (∀ j, NumB (u j)) ∧ ∀ (r : Addr) (H' : Hp), Same H H' → At C N H' (.ref r) (textsD n u) → Q (.ref r) H'
def spLts (C : Addr) : Sp := fun vs H Q _ => ∃ (N : Addr → Prop) (p : Addr) (n : Nat) (u : Nat → Rat), vs = [.ref p] ∧ At C N H (.ref p) (prL n u) ∧ Alc N H ∧ n ≤ 1000 ∧ (∀ j, NumB (u j)) ∧ ∀ (r : Addr) (H' : Hp), Same H H' → At C N H' (.ref r) (textsD n u) → Q (.ref r) H'
def spMp (C CM : Addr) : Sp := fun vs H Q _ => ∃ (N : Addr → Prop) (p ab : Addr) (m : Mc), vs = [.ref p] ∧ MachAt C CM N H p ab m ∧ Alc N H ∧ Shn m ∧ ∀ (r : Addr) (H' : Hp), Same H H' → At C N H' (.ref r) (picD m) → Q (.ref r) H'
def spPic (C : Addr) : Sp := fun vs H Q _ => ∃ (N : Addr → Prop) (p : Addr) (m : Mc), vs = [.ref p] ∧ At C N H (.ref p) (partsD m) ∧ Alc N H ∧ Shn m ∧ ∀ (r : Addr) (H' : Hp), Same H H' → At C N H' (.ref r) (picD m) → Q (.ref r) H'
theorem numB140 {q : Rat} (h : NumB q) : Bt 140 q.num ∧ Bt 140 (q.den : Int) := ⟨h.1.up (by decide), h.2.up (by decide)⟩
section
variable {P : Program} {w : World} {K : PySem.W.Frag} {mg : Str → Option Value} {base : Heap}
theorem ok_tx {f fR C : Addr} {fd dR : FuncData} (F : Fun K "_texts" "_texts" sTexts f fd) (TP : TxtP mg) (TR : TxtR K mg C) (cRx : MetN P w K mg base C "text" 3 ["self"] (spRText C) fR dR) : FnOk P w K mg base CX0 4 f fd ["row"] (spTx C) := by
  refine F.ok scTx (fun vs H Q E h => ?_) (fun cdv A outer s H vs Q E hr h => ?_)
  · obtain ⟨N, p, n, u, rfl, _⟩ := h
    rfl
  · obtain ⟨N, p, n, u, rfl, hp, al, hn, hu, k⟩ := h
    have hr3 : Room 3 _ := hr
    obtain ⟨xs, hx, lx, ex⟩ := At.tupR hp
    refine ⟨_, pss_one (ps_ret (pe_callTy (T := "tuple") call_tuple_of (by rfl) TP.tup (by decide +kernel) (pa_cons (pe_lc (own := [("number", 1)]) (g := gName 1) (tt := tYes) rfl scTx.nd (pi_tup (pv 0)) (blkOk_by (N := ["row", "number"]) (sc := (defScope sTexts)) (by decide +kernel)) (fun _ _ _ _ _ => (pg_name (i := 1) scTx.nd rfl (.inl rfl))) (fun _ _ _ _ _ => pts_nil) (fun _ _ _ _ _ => (pe_meth0 (pv 1) TR.cl cRx.m cRx.G hr3 cRx.b .nil pass0))) pa_nil))), ?_⟩
    refine ⟨_, rfl, p, rfl, ⟨_, SqT.of hx⟩, fun D nD => ?_⟩
    have nND := al.fresh nD
    refine lc_it (walk_tup (K := K) (a := p) (xs := xs)) (fun i H' => Bld C Emp N H D (rng i fun j => .str (txt (u j).num ((u j).den : Int))) H') (bld0 nD) (fun i H' _ b => SqT.of (b.k.same _ _ hx)) ?_ ?_
    · rintro i x H2 H3 hi b ⟨rfl, hx2⟩
      rw [lx] at hi
      obtain ⟨y, hy1, hy2⟩ := ex i hi
      rw [hy1] at hx2
      obtain rfl := Option.some.inj hx2
      obtain ⟨q, rfl, dx, hR⟩ := (hy2.same b.k.same).ratV
      have nb := numB140 (hu i)
      refine ⟨rfl, _, rfl, q, dx, _, rfl, hR, rf_no _ _ (by decide +kernel) (by decide +kernel), q, _, _, rfl, ⟨dx, hR⟩, nb.1, nb.2, ?_⟩
      obtain ⟨acc, h1, h2, h3⟩ := b.step nD Keep.refl (fun _ z => z.elim) id (.str (txt (u i).num ((u i).den : Int)))
      refine ⟨acc, h1, by rw [h2, rng_len]; exact small1000 (by omega), ?_⟩
      rw [rng_succ]
      exact h3
    · rintro H2 b
      rw [lx] at b
      obtain ⟨ys, hD, l2, e2⟩ := (b.done nND).lstE
      refine ⟨D, ys, rfl, .inl ⟨SqL.of hD, fun r nr => ?_⟩⟩
      exact k r _ (b.k.same.trans (Same.upd nr)) (At.newT (al.keep b.k) nr l2 e2)
theorem ok_lts {f fT C : Addr} {fd dT : FuncData} (F : Fun K "_law_texts" "_law_texts" sLTexts f fd) (TP : TxtP mg) (cTt : CalN P w K mg base "_law_text" 1 ["one"] spLText fT dT) : FnOk P w K mg base CX0 2 f fd ["line"] (spLts C) := by
  refine F.ok scTs (fun vs H Q E h => ?_) (fun cdv A outer s H vs Q E hr h => ?_)
  · obtain ⟨N, p, n, u, rfl, _⟩ := h
    rfl
  · obtain ⟨N, p, n, u, rfl, hp, al, hn, hu, k⟩ := h
    have hr1 : Room 1 _ := hr
    obtain ⟨xs, hx, lx, ex⟩ := At.lstR hp
    refine ⟨_, pss_one (ps_ret (pe_callTy (T := "tuple") call_tuple_of (by rfl) TP.tup (by decide +kernel) (pa_cons (pe_lc (own := [("one", 1)]) (g := gName 1) (tt := tYes) rfl scTs.nd (pi_list (pv 0)) (blkOk_by (N := ["line", "one"]) (sc := (defScope sLTexts)) (by decide +kernel)) (fun _ _ _ _ _ => (pg_name (i := 1) scTs.nd rfl (.inl rfl))) (fun _ _ _ _ _ => pts_nil) (fun _ _ _ _ _ => (pe_call cTt.G hr1 rfl cTt.m cTt.kp cTt.b .nil pass0 (pa_cons (pv 1) pa_nil)))) pa_nil))), ?_⟩
    refine ⟨_, rfl, p, rfl, ⟨_, SqL.of hx⟩, fun D nD => ?_⟩
    have nND := al.fresh nD
    refine lc_it (walk_list (K := K) (a := p) (xs := xs)) (fun i H' => Bld C Emp N H D (rng i fun j => .str (txt (u j).num ((u j).den : Int))) H') (bld0 nD) (fun i H' _ b => SqL.of (b.k.same _ _ hx)) ?_ ?_
    · rintro i x H2 H3 hi b ⟨rfl, hx2⟩
      rw [lx] at hi
      obtain ⟨y, hy1, hy2⟩ := ex i hi
      rw [hy1] at hx2
      obtain rfl := Option.some.inj hx2
      obtain ⟨q, rfl, hR, _⟩ := (hy2.same b.k.same).pair
      have nb := numB140 (hu i)
      refine ⟨rfl, _, rfl, q, _, _, rfl, hR, nb.1, nb.2, ?_⟩
      obtain ⟨acc, h1, h2, h3⟩ := b.step nD Keep.refl (fun _ z => z.elim) id (.str (txt (u i).num ((u i).den : Int)))
      refine ⟨acc, h1, by rw [h2, rng_len]; exact small1000 (by omega), ?_⟩
      rw [rng_succ]
      exact h3
    · rintro H2 b
      rw [lx] at b
      obtain ⟨ys, hD, l2, e2⟩ := (b.done nND).lstE
      refine ⟨D, ys, rfl, .inl ⟨SqL.of hD, fun r nr => ?_⟩⟩
      exact k r _ (b.k.same.trans (Same.upd nr)) (At.newT (al.keep b.k) nr l2 e2)
theorem ok_mp {f fT C CM : Addr} {fd dT : FuncData} (F : Fun K "picture" "Machine.picture" sMPic f fd) (TP : TxtP mg) (TM : TxtM K mg CM) (cTx : CalN P w K mg base "_texts" 4 ["row"] (spTx C) fT dT) : FnOk P w K mg base CX0 5 f fd ["self"] (spMp C CM) := by
  refine F.ok scMp (fun vs H Q E h => ?_) (fun cdv A outer s H vs Q E hr h => ?_)
  · obtain ⟨N, p, ab, m, rfl, _⟩ := h
    rfl
  · obtain ⟨N, p, ab, m, rfl, hm, al, sn, k⟩ := h
    have hr4 : Room 4 _ := hr
    have n4 := sn.n4
    have k4 := sn.k4
    obtain ⟨dx, vS, vT, vE, hp, hS, hT, hE⟩ := hm.ex
    obtain ⟨qS, rfl⟩ := hS.tupV
    obtain ⟨qT, rfl⟩ := hT.tupV
    obtain ⟨qE, rfl⟩ := hE.tupV
    obtain ⟨xs, hx, lx, ex⟩ := At.tupR hT
    refine ⟨_, pss_cons (ps_set (i := 1) scMp.nd rfl (.inl rfl) (pe_callTy (T := "tuple") call_tuple_of (by rfl) TP.tup (by decide +kernel) (pa_cons (pe_lc (own := [("step", 2)]) (g := gName 2) (tt := tYes) rfl scMp.nd (pi_tup (pe_fld (pv 0) rfl)) (blkOk_by (N := ["self", "steps", "step", "row"]) (sc := (defScope sMPic)) (by decide +kernel)) (fun _ _ _ _ _ => (pg_name (i := 2) scMp.nd rfl (.inl rfl))) (fun _ _ _ _ _ => pts_nil) (fun _ _ _ _ _ => (pe_callTy (T := "tuple") (show CallR _ (.type "tuple") (rTupO K) from call_tupK) (by rfl) TP.tup (by decide +kernel) (pa_cons (pe_lc (own := [("row", 3)]) (g := gName 3) (tt := tYes) rfl scMp.nd (pi_tupK (K := K) rfl (pv 2)) (blkOk_by (N := ["self", "steps", "step", "row"]) (sc := outMp0) (by decide +kernel)) (fun _ _ _ _ _ => (pg_name (i := 3) scMp.nd rfl (.inl rfl))) (fun _ _ _ _ _ => pts_nil) (fun _ _ _ _ _ => (pe_call cTx.G hr4 rfl cTx.m cTx.kp cTx.b .nil pass0 (pa_cons (pv 3) pa_nil)))) pa_nil)))) pa_nil)))
      (pss_one (ps_ret (pe_tup (pa_cons (pe_fld (pv 0) rfl) (pa_cons (pe_call cTx.G hr4 rfl cTx.m cTx.kp cTx.b .nil pass0 (pa_cons (pe_fld (pv 0) rfl) pa_nil)) (pa_cons (pv 1) (pa_cons (pe_call cTx.G hr4 rfl cTx.m cTx.kp cTx.b .nil pass0 (pa_cons (pe_fld (pv 0) rfl) pa_nil)) pa_nil))))))), ?_⟩
    refine ⟨_, rfl, p, CM, dx, _, _, rfl, hp, TM.cl, TM.nT, mf_t, qT, rfl, ⟨_, SqT.of hx⟩, fun D nD => ?_⟩
    have nND := al.fresh nD
    refine lc_it (walk_tup (K := K) (a := qT) (xs := xs)) (fun i H' => Bld C Emp N H D (rng i fun x => .tup (rng m.n fun i => textsD m.n (m.t x i))) H') (bld0 nD) (fun i H' _ b => SqT.of (b.k.same _ _ hx)) ?_ ?_
    · rintro i x H2 H3 hi b ⟨rfl, hx2⟩
      rw [lx] at hi
      obtain ⟨y, hy1, hy2⟩ := ex i hi
      rw [hy1] at hx2
      obtain rfl := Option.some.inj hx2
      obtain ⟨st, rfl⟩ := hy2.tupV
      have hst := hy2.same b.k.same
      obtain ⟨rs, hrs, lrs, ers⟩ := At.tupR hst
      have alG := b.alc al
      refine ⟨rfl, _, rfl, st, rfl, ⟨_, SqT.of hrs⟩, fun L nL => ?_⟩
      have nNL := alG.fresh nL
      refine lc_it (walk_tup (K := K) (a := st) (xs := rs)) (fun j G => Bld C Emp (And1 N D) H3 L (rng j fun i' => textsD m.n (m.t i i')) G) (bld0 nL) (fun j G _ b => SqT.of (b.k.same _ _ hrs)) ?_ ?_
      · rintro j y G3 G4 hj b2 ⟨rfl, hyj⟩
        rw [lrs] at hj
        obtain ⟨y', hy1', hy2'⟩ := ers j hj
        rw [hy1'] at hyj
        obtain rfl := Option.some.inj hyj
        obtain ⟨ln, rfl⟩ := hy2'.tupV
        have h4 : At C (And1 (And1 N D) L) G4 (.ref ln) (ratR m.n (m.t i j)) := by
          obtain ⟨rs', hrs', _, ers'⟩ := At.tupR (b.old nD (fun _ z => z.elim) (show At C N H (.ref st) (ratT m.n m.n (m.t i)) from hy2))
          rw [hrs] at hrs'
          obtain rfl : rs = rs' := by injection hrs' with z; injection z
          obtain ⟨y2, h1, h2⟩ := ers' j hj
          rw [hy1'] at h1
          obtain rfl := Option.some.inj h1
          exact b2.old nL (fun _ z => z.elim) h2
        refine ⟨rfl, _, rfl, And1 (And1 N D) L, ln, m.n, m.t i j, rfl, h4, b2.alc alG, by omega, sn.t i j, fun r G5 s5 hr5 => ?_⟩
        obtain ⟨acc, h1, h2, h3⟩ := b2.step nL (Keep.more (Same.keep (N := Emp) s5) fun _ z => z.elim) (fun _ z => z.elim) id hr5
        refine ⟨acc, h1, by rw [h2, rng_len]; exact small1000 (by omega), ?_⟩
        rw [rng_succ]
        exact h3
      · rintro G3 b2
        rw [lrs] at b2
        obtain ⟨ys, hL, lL, eL⟩ := (b2.done nNL).lstE
        refine ⟨L, ys, rfl, .inl ⟨SqL.of hL, fun r nr => ?_⟩⟩
        have hz := At.newT (alG.keep b2.k) nr lL eL
        obtain ⟨acc, h1, h2, h3⟩ := b.step nD (b2.k.trans (Keep.new nr)) (fun _ z => z.elim) id hz
        refine ⟨acc, h1, by rw [h2, rng_len]; exact small1000 (by omega), ?_⟩
        rw [rng_succ]
        exact h3
    · rintro H2 b
      rw [lx] at b
      obtain ⟨ys, hD, l2, e2⟩ := (b.done nND).lstE
      refine ⟨D, ys, rfl, .inl ⟨SqL.of hD, fun r nr => ?_⟩⟩
      have hz := At.newT (al.keep b.k) nr l2 e2
      have s1 := b.k.same.trans (Same.upd (o := .tup ys) nr)
      generalize upd H2 r (.tup ys) = H3 at *
      have al3 := al.keep (Same.keep (N := N) s1)
      refine ⟨_, rfl, p, CM, dx, _, _, rfl, s1 _ _ hp, TM.cl, TM.nL, mf_l, ?_⟩
      refine ⟨_, rfl, p, CM, dx, _, _, rfl, s1 _ _ hp, TM.cl, TM.nS, mf_s, N, qS, m.n, m.s, rfl, hS.same s1, al3, by omega, sn.s, fun rS H4 s4 hrS => ?_⟩
      have s14 := s1.trans s4
      refine ⟨_, rfl, _, rfl, p, CM, dx, _, _, rfl, s14 _ _ hp, TM.cl, TM.nE, mf_e, N, qE, m.n, m.e, rfl, hE.same s14, al.keep (Same.keep (N := N) s14), by omega, sn.e, fun rE H5 s5 hrE => ?_⟩
      refine ⟨(by show 4 ≤ sizeLine; decide), fun t nt => ?_⟩
      have s15 := s14.trans s5
      exact k t _ (s15.trans (Same.upd nt)) (At.newT (al.keep (Same.keep (N := N) s15)) nt rfl (itemsC (.int _) (itemsC (hrS.same s5) (itemsC ((hz.same s4).same s5) (items1 hrE)))))
theorem ok_lpic {f fT C : Addr} {fd dT : FuncData} (F : Fun K "_law_picture" "_law_picture" sLPic f fd) (T : TxtL mg) (TP : TxtP mg) (cTs : CalN P w K mg base "_law_texts" 2 ["line"] (spLts C) fT dT) : FnOk P w K mg base CX0 3 f fd ["parts"] (spPic C) := by
  refine F.ok scPic (fun vs H Q E h => ?_) (fun cdv A outer s H vs Q E hr h => ?_)
  · obtain ⟨N, p, m, rfl, _⟩ := h
    rfl
  · obtain ⟨N, p, m, rfl, hp, al, sn, k⟩ := h
    have hr2 : Room 2 _ := hr
    have n4 := sn.n4
    have k4 := sn.k4
    obtain ⟨qS, qT, qE, hy, hS, hT, hE⟩ := hp.parts
    obtain ⟨xs, hx, lx, ex⟩ := At.lstR hT
    refine ⟨_, pss_cons (ps_set (i := 1) scPic.nd rfl (.inl rfl) (pe_callTy (T := "tuple") call_tuple_of (by rfl) TP.tup (by decide +kernel) (pa_cons (pe_lc (own := [("step", 2)]) (g := gName 2) (tt := tYes) rfl scPic.nd (pi_list (pe_ix ix_list (pv 0) pe_int (fun _ _ => rfl))) (blkOk_by (N := ["parts", "steps", "step", "line"]) (sc := (defScope sLPic)) (by decide +kernel)) (fun _ _ _ _ _ => (pg_name (i := 2) scPic.nd rfl (.inl rfl))) (fun _ _ _ _ _ => pts_nil) (fun _ _ _ _ _ => (pe_callTy (T := "tuple") (show CallR _ (.type "tuple") (rTupO K) from call_tupK) (by rfl) TP.tup (by decide +kernel) (pa_cons (pe_lc (own := [("line", 3)]) (g := gName 3) (tt := tYes) rfl scPic.nd (pi_listK (K := K) rfl (pv 2)) (blkOk_by (N := ["parts", "steps", "step", "line"]) (sc := outPic0) (by decide +kernel)) (fun _ _ _ _ _ => (pg_name (i := 3) scPic.nd rfl (.inl rfl))) (fun _ _ _ _ _ => pts_nil) (fun _ _ _ _ _ => (pe_call cTs.G hr2 rfl cTs.m cTs.kp cTs.b .nil pass0 (pa_cons (pv 3) pa_nil)))) pa_nil)))) pa_nil)))
      (pss_one (ps_ret (pe_tup (pa_cons (pe_callB call_len_seq (by rfl) T.len PySem.boot_len (pa_cons (pe_ix ix_list (pv 0) pe_int (fun _ _ => rfl)) pa_nil)) (pa_cons (pe_call cTs.G hr2 rfl cTs.m cTs.kp cTs.b .nil pass0 (pa_cons (pe_ix ix_list (pv 0) pe_int (fun _ _ => rfl)) pa_nil)) (pa_cons (pv 1) (pa_cons (pe_call cTs.G hr2 rfl cTs.m cTs.kp cTs.b .nil pass0 (pa_cons (pe_ix ix_list (pv 0) pe_int (fun _ _ => rfl)) pa_nil)) pa_nil))))))), ?_⟩
    refine ⟨_, rfl, p, _, 1, _, rfl, rfl, SqL.of hy, rfl, qT, rfl, ⟨_, SqL.of hx⟩, fun D nD => ?_⟩
    have nND := al.fresh nD
    refine lc_it (walk_list (K := K) (a := qT) (xs := xs)) (fun i H' => Bld C Emp N H D (rng i fun x => .tup (rng m.n fun i => textsD m.n (m.t x i))) H') (bld0 nD) (fun i H' _ b => SqL.of (b.k.same _ _ hx)) ?_ ?_
    · rintro i x H2 H3 hi b ⟨rfl, hx2⟩
      rw [lx] at hi
      obtain ⟨y, hy1, hy2⟩ := ex i hi
      rw [hy1] at hx2
      obtain rfl := Option.some.inj hx2
      obtain ⟨st, rfl⟩ := hy2.lstV
      have hst := hy2.same b.k.same
      obtain ⟨rs, hrs, lrs, ers⟩ := At.lstR hst
      have alG := b.alc al
      refine ⟨rfl, _, rfl, st, rfl, ⟨_, SqL.of hrs⟩, fun L nL => ?_⟩
      have nNL := alG.fresh nL
      refine lc_it (walk_list (K := K) (a := st) (xs := rs)) (fun j G => Bld C Emp (And1 N D) H3 L (rng j fun i' => textsD m.n (m.t i i')) G) (bld0 nL) (fun j G _ b => SqL.of (b.k.same _ _ hrs)) ?_ ?_
      · rintro j y G3 G4 hj b2 ⟨rfl, hyj⟩
        rw [lrs] at hj
        obtain ⟨y', hy1', hy2'⟩ := ers j hj
        rw [hy1'] at hyj
        obtain rfl := Option.some.inj hyj
        obtain ⟨ln, rfl⟩ := hy2'.lstV
        have h4 : At C (And1 (And1 N D) L) G4 (.ref ln) (prL m.n (m.t i j)) := by
          obtain ⟨rs', hrs', _, ers'⟩ := At.lstR (b.old nD (fun _ z => z.elim) (show At C N H (.ref st) (prT m.n m.n (m.t i)) from hy2))
          rw [hrs] at hrs'
          obtain rfl : rs = rs' := by injection hrs' with z; injection z
          obtain ⟨y2, h1, h2⟩ := ers' j hj
          rw [hy1'] at h1
          obtain rfl := Option.some.inj h1
          exact b2.old nL (fun _ z => z.elim) h2
        refine ⟨rfl, _, rfl, And1 (And1 N D) L, ln, m.n, m.t i j, rfl, h4, b2.alc alG, by omega, sn.t i j, fun r G5 s5 hr5 => ?_⟩
        obtain ⟨acc, h1, h2, h3⟩ := b2.step nL (Keep.more (Same.keep (N := Emp) s5) fun _ z => z.elim) (fun _ z => z.elim) id hr5
        refine ⟨acc, h1, by rw [h2, rng_len]; exact small1000 (by omega), ?_⟩
        rw [rng_succ]
        exact h3
      · rintro G3 b2
        rw [lrs] at b2
        obtain ⟨ys, hL, lL, eL⟩ := (b2.done nNL).lstE
        refine ⟨L, ys, rfl, .inl ⟨SqL.of hL, fun r nr => ?_⟩⟩
        have hz := At.newT (alG.keep b2.k) nr lL eL
        obtain ⟨acc, h1, h2, h3⟩ := b.step nD (b2.k.trans (Keep.new nr)) (fun _ z => z.elim) id hz
        refine ⟨acc, h1, by rw [h2, rng_len]; exact small1000 (by omega), ?_⟩
        rw [rng_succ]
        exact h3
    · rintro H2 b
      rw [lx] at b
      obtain ⟨ys, hD, l2, e2⟩ := (b.done nND).lstE
      refine ⟨D, ys, rfl, .inl ⟨SqL.of hD, fun r nr => ?_⟩⟩
      have hz := At.newT (al.keep b.k) nr l2 e2
      have s1 := b.k.same.trans (Same.upd (o := .tup ys) nr)
      generalize upd H2 r (.tup ys) = H3 at *
      have al3 := al.keep (Same.keep (N := N) s1)
      refine ⟨_, rfl, p, _, 1, _, rfl, rfl, SqL.of (s1 _ _ hy), rfl, qT, xs, rfl, .inl (SqL.of (s1 _ _ hx)), ?_⟩
      rw [lx]
      refine ⟨_, rfl, p, _, 0, _, rfl, rfl, SqL.of (s1 _ _ hy), rfl, N, qS, m.n, m.s, rfl, hS.same s1, al3, by omega, sn.s, fun rS H4 s4 hrS => ?_⟩
      have s14 := s1.trans s4
      refine ⟨_, rfl, _, rfl, p, _, 2, _, rfl, rfl, SqL.of (s14 _ _ hy), rfl, N, qE, m.n, m.e, rfl, hE.same s14, al.keep (Same.keep (N := N) s14), by omega, sn.e, fun rE H5 s5 hrE => ?_⟩
      refine ⟨(by show 4 ≤ sizeLine; decide), fun t nt => ?_⟩
      have s15 := s14.trans s5
      exact k t _ (s15.trans (Same.upd nt)) (At.newT (al.keep (Same.keep (N := N) s15)) nt rfl (itemsC (.int _) (itemsC (hrS.same s5) (itemsC ((hz.same s4).same s5) (items1 hrE)))))
end
end RX

set_option Elab.async false
set_option maxRecDepth 100000
namespace RX
open PySem L2 L2H XH LX VA
open RQ (Bt)
abbrev sPictured : Stmt := topS 65
theorem scPd : FnScope ["machine", "parts", "found"] ["machine", "parts"] (defScope sPictured) := ⟨rfl, rfl, rfl, by decide +kernel, rfl, by decide +kernel, by decide +kernel⟩
theorem dp_items {K : PySem.W.Frag} {H : Hp} {f : Nat → PyData} : ∀ {xs : List V} {l : Nat}, (∀ i, i < xs.length → ∃ v, xs[i]? = some v ∧ Dp K H v (f (l + i))) → DpAll K H xs ((List.range' l xs.length).map f)
  | [], _, _ => .nil
  | x :: xs, l, h => by
    obtain ⟨v, e, d⟩ := h 0 (by simp)
    obtain rfl := Option.some.inj e
    refine .cons d (dp_items fun i hi => ?_)
    obtain ⟨v, e, d⟩ := h (i + 1) (by simp; omega)
    exact ⟨v, e, by rw [show l + 1 + i = l + (i + 1) by omega]; exact d⟩
structure PyOk (d : PyData) (k : Nat) : Prop where
  lay : d.canLay0 = true
  dep : d.depth ≤ k
  eqv : PyData.eqv d d = true
theorem layM {f : Nat → PyData} : ∀ {l : List Nat}, (∀ i, (f i).canLay0 = true) → PyData.canLayAll0 (l.map f) = true
  | [], _ => by simp [PyData.canLayAll0]
  | i :: l, h => by simp [PyData.canLayAll0, h i, layM (l := l) h]
theorem depM {f : Nat → PyData} {k : Nat} : ∀ {l : List Nat}, (∀ i, (f i).depth ≤ k) → PyData.depthAll (l.map f) ≤ k
  | [], _ => by simp [PyData.depthAll]
  | i :: l, h => by
    have h1 := h i
    have h2 := depM (l := l) h
    simp only [List.map_cons, PyData.depthAll]
    omega
theorem eqvM {f : Nat → PyData} : ∀ {l : List Nat}, (∀ i, PyData.eqv (f i) (f i) = true) → PyData.eqvAll (l.map f) (l.map f) = true
  | [], _ => by simp [PyData.eqvAll]
  | i :: l, h => by simp [PyData.eqvAll, h i, eqvM (l := l) h]
theorem tupleOk {f : Nat → PyData} {k : Nat} {l : List Nat} (h : ∀ i, PyOk (f i) k) : PyOk (.tuple (l.map f)) (k + 1) := by
  refine ⟨?_, ?_, ?_⟩
  · simp only [PyData.canLay0]
    exact layM fun i => (h i).lay
  · simp only [PyData.depth]
    have := depM (l := l) fun i => (h i).dep
    omega
  · simp only [PyData.eqv]
    exact eqvM fun i => (h i).eqv
def textsP (n : Nat) (u : Nat → Rat) : PyData := .tuple ((List.range n).map fun j => .str (txt (u j).num ((u j).den : Int)))
def picP (m : Mc) : PyData := .tuple [.int (m.k : Int), textsP m.n m.s, .tuple ((List.range m.k).map fun x => .tuple ((List.range m.n).map fun i => textsP m.n (m.t x i))), textsP m.n m.e]
theorem dp_tup {K : PySem.W.Frag} {C : Addr} {N : Addr → Prop} {H : Hp} {v : V} {n : Nat} {g : Nat → Dat} {f : Nat → PyData} (h : At C N H v (.tup (rng n g))) (k : ∀ i, i < n → ∀ v, At C N H v (g i) → Dp K H v (f i)) : Dp K H v (.tuple ((List.range n).map f)) := by
  obtain ⟨p, rfl⟩ := h.tupV
  obtain ⟨xs, hx, lx, ex⟩ := At.tupR h
  refine .tup (SqT.of hx) ?_
  have := dp_items (K := K) (H := H) (f := f) (xs := xs) (l := 0) fun i hi => by
    obtain ⟨x, e1, e2⟩ := ex i (by omega)
    exact ⟨x, e1, by rw [Nat.zero_add]; exact k i (by omega) x e2⟩
  rw [lx, ← List.range_eq_range'] at this
  exact this
theorem dp_texts {K : PySem.W.Frag} {C : Addr} {N : Addr → Prop} {H : Hp} {v : V} {n : Nat} {u : Nat → Rat} (h : At C N H v (textsD n u)) : Dp K H v (textsP n u) := dp_tup h fun i _ v hv => by
  rw [hv.strV]
  exact .str _
theorem pic_parts {C : Addr} {N : Addr → Prop} {H : Hp} {r : Addr} {m : Mc} (h : At C N H (.ref r) (picD m)) : ∃ v1 v2 v3, H r = some (.tup [.int (m.k : Int), v1, v2, v3]) ∧ At C N H v1 (textsD m.n m.s) ∧ At C N H v2 (.tup (rng m.k fun x => .tup (rng m.n fun i => textsD m.n (m.t x i)))) ∧ At C N H v3 (textsD m.n m.e) := by
  obtain ⟨ys, hy, ly, ey⟩ := h.tupE
  match ys, ly with
  | [v0, v1, v2, v3], _ =>
    have h0 := (ey 0 v0 _ rfl rfl).intV
    subst h0
    exact ⟨v1, v2, v3, hy, ey 1 v1 _ rfl rfl, ey 2 v2 _ rfl rfl, ey 3 v3 _ rfl rfl⟩
theorem dp_pic {K : PySem.W.Frag} {C : Addr} {N : Addr → Prop} {H : Hp} {r : Addr} {m : Mc} (h : At C N H (.ref r) (picD m)) : Dp K H (.ref r) (picP m) := by
  obtain ⟨v1, v2, v3, hy, h1, h2, h3⟩ := pic_parts h
  exact .tup (SqT.of hy) (.cons (.int _) (.cons (dp_texts h1) (.cons (dp_tup h2 fun x _ v hv => dp_tup hv fun i _ v hv => dp_texts hv) (.cons (dp_texts h3) .nil))))
theorem ofs_ok (s : String) : ∀ c ∈ (Str.ofString s).cps, c < 0x110000 := by
  intro c hc
  rw [PySem.Str.ofString_eq_toList] at hc
  have hc := List.mem_toArray.mp hc
  obtain ⟨ch, _, rfl⟩ := List.mem_map.mp hc
  have h := ch.valid
  show ch.val.toNat < 0x110000
  rcases h with h | ⟨_, h⟩
  · exact Nat.lt_of_lt_of_le (show ch.val.toNat < 0xd800 from h) (by decide)
  · exact h
theorem txt_ok (n d : Int) : PyData.strOk (txt n d) = true := by
  unfold PyData.strOk
  rw [Array.all_eq_true']
  intro c hc
  have : ∀ x : Int, ∀ c ∈ (toString x : Str).cps, c < 0x110000 := fun x => ofs_ok _
  unfold txt at hc
  split at hc
  · exact decide_eq_true (this n c hc)
  · rw [PySem.Str.cps_append, PySem.Str.cps_append] at hc
    rcases Array.mem_append.mp hc with hc | hc
    · rcases Array.mem_append.mp hc with hc | hc
      · exact decide_eq_true (this n c hc)
      · exact decide_eq_true (ofs_ok "/" c hc)
    · exact decide_eq_true (this d c hc)
theorem picP_ok (m : Mc) : SeqAt.shaped (picP m) = true ∧ PyData.eqv (picP m) (picP m) = true := by
  have s1 : ∀ n d : Int, PyOk (.str (txt n d)) 2 := fun n d => ⟨by simp [PyData.canLay0, txt_ok n d], by simp [PyData.depth], by simp [PyData.eqv]⟩
  have l1 : ∀ u : Nat → Rat, PyOk (textsP m.n u) 3 := fun u => tupleOk fun i => s1 _ _
  have l2 : PyOk (.tuple ((List.range m.k).map fun x => .tuple ((List.range m.n).map fun i => textsP m.n (m.t x i)))) 5 := tupleOk fun x => tupleOk fun i => l1 _
  have a := l1 m.s
  have b := l1 m.e
  have ok : PyOk (picP m) 6 := by
    unfold picP
    refine ⟨?_, ?_, ?_⟩
    · simp [PyData.canLay0, PyData.canLayAll0, a.lay, b.lay]
      have := l2.lay
      simpa [PyData.canLay0] using this
    · have h1 := a.dep
      have h2 := b.dep
      have h3 := l2.dep
      simp only [PyData.depth, PyData.depthAll] at h1 h2 h3 ⊢
      omega
    · have h3 := l2.eqv
      simp only [PyData.eqv, PyData.eqvAll, a.eqv, b.eqv] at h3 ⊢
      rw [h3]
      simp
  exact ⟨by unfold SeqAt.shaped; rw [ok.lay, decide_eq_true (by have := ok.dep; omega)]; rfl, ok.eqv⟩
def spPd (C CM : Addr) : Sp := fun vs H Q _ => ∃ (N : Addr → Prop) (p ab q : Addr) (m : Mc), vs = [.ref p, .ref q] ∧ MachAt C CM N H p ab m ∧ At C N H (.ref q) (partsD m) ∧ Alc N H ∧ Shn m ∧ ∀ H', Same H H' → Q (.bl true) H'
section
variable {P : Program} {w : World} {K : PySem.W.Frag} {mg : Str → Option Value} {base : Heap}
theorem ok_pd {f fM fI fT C CM : Addr} {fd dM dI dT : FuncData} (F : Fun K "_law_pictured" "_law_pictured" sPictured f fd) (T : TxtL mg) (TP : TxtP mg) (TM : TxtM K mg CM) (cMp : MetN P w K mg base CM "picture" 5 ["self"] (spMp C CM) fM dM)
    (cIs : CalN P w K mg base "_law_is_integer" 1 ["actual"] spIsInt fI dI) (cPi : CalN P w K mg base "_law_picture" 3 ["parts"] (spPic C) fT dT) : FnOk P w K mg base CX0 6 f fd ["machine", "parts"] (spPd C CM) := by
  refine F.ok scPd (fun vs H Q E h => ?_) (fun cdv A outer s H vs Q E hr h => ?_)
  · obtain ⟨N, p, ab, q, m, rfl, _⟩ := h
    rfl
  · obtain ⟨N, p, ab, q, m, rfl, hm, hq, al, sn, k⟩ := h
    have hr5 : Room 5 _ := hr
    have hr1 : Room 1 _ := hr.mono (by decide)
    have hr3 : Room 3 _ := hr.mono (by decide)
    obtain ⟨dx, vS, vT, vE, hp, _⟩ := hm.ex
    refine ⟨_, pss_cons (ps_set (i := 2) scPd.nd rfl (.inl rfl) (pe_meth0 (pv 0) TM.cl cMp.m cMp.G hr5 cMp.b .nil pass0))
      (pss_cons (ps_if (PW.pt (pw_or (pt_not (pt_val (pe_callB RZ.call_isTy (by rfl) T.isi (by decide +kernel) (pa_cons (pv 2) (pa_cons (pe_bltn (v := .ty "tuple") (by rfl) TP.tup (by decide +kernel) rfl) pa_nil))))) (pw_or (pt_cmpR op_ne (pe_callB call_len_seq (by rfl) T.len PySem.boot_len (pa_cons (pv 2) pa_nil)) pe_int (nomark _)) (pw_or1 (pt_not (pt_val (pe_call cIs.G hr1 rfl cIs.m cIs.kp cIs.b .nil pass0 (pa_cons (pe_ix ix_tup (pv 2) pe_int (fun _ _ => rfl)) pa_nil))))))))
        (pss_one ps_never)
        pss_nil)
      (pss_one (ps_ret (pe_cmpR (op_eqD hr.units) (pv 2) (pe_call cPi.G hr3 rfl cPi.m cPi.kp cPi.b .nil pass0 (pa_cons (pv 1) pa_nil)) (nomark _))))), ?_⟩
    refine ⟨_, rfl, p, dx, _, rfl, hp, mf_no (by decide +kernel) (by decide +kernel) (by decide +kernel) (by decide +kernel) (by decide +kernel), N, p, ab, m, rfl, hm, al, sn, fun r H1 s1 hr1 => ?_⟩
    obtain ⟨v1, v2, v3, hy, _⟩ := pic_parts hr1
    refine ⟨_, rfl, .ref r, "tuple", rfl, .tup hy, true, rfl, iteF ?_⟩
    refine ⟨_, rfl, r, _, rfl, .inr (SqT.of hy), rfl, _, rfl, itF (by rfl) ?_⟩
    refine ⟨_, rfl, r, _, 0, _, rfl, rfl, SqT.of hy, rfl, _, rfl, true, rfl, iteF ?_⟩
    refine ⟨_, rfl, _, rfl, N, q, m, rfl, hq.same s1, al.keep (Same.keep (N := N) s1), sn, fun r2 H2 s2 hr2 => ?_⟩
    obtain ⟨sh, eq⟩ := picP_ok m
    refine ⟨picP m, picP m, dp_pic (hr1.same s2), dp_pic hr2, sh, sh, ?_⟩
    rw [eq]
    exact k H2 (s1.trans s2)
end
end RX

set_option Elab.async false
set_option maxRecDepth 100000
namespace RX
open PySem L2 L2H XH LX VA
/-- a word whose first strange sign is at i -/
structure BadWd (k : Nat) (s : Str) : Prop where
  l : s.length ≤ 1000
  k1 : 1 ≤ k
  k4 : k ≤ 4
  ex : ∃ (i c : Nat), s.cps[i]? = some c ∧ c ∉ (abK k).cps.toList ∧ ∀ j, j < i → ∀ d, s.cps[j]? = some d → d ∈ (abK k).cps.toList
def spCwX (D : Nat → Addr) : Sp := fun vs H _ E => ∃ (k : Nat) (s : Str), vs = [.int (k : Int), .str s] ∧ BadWd k s ∧ ∀ dd H', Flies H (.str s) dd H' → E (.ref (D 2)) (some dd) H'
/-- a method asked for a strange word -/
def spBadM (C CM : Addr) (D : Nat → Addr) : Sp := fun vs H _ E => ∃ (N : Addr → Prop) (p ab : Addr) (m : Mc) (s : Str), vs = [.ref p, .str s] ∧ MachAt C CM N H p ab m ∧ BadWd m.k s ∧ ∀ dd H', Flies H (.str s) dd H' → E (.ref (D 2)) (some dd) H'
/-- a method that lets something out -/
structure MetX (P : Program) (w : World) (K : PySem.W.Frag) (mg : Str → Option Value) (base : Heap) (C : Addr) (x : Str) (k : Nat) (ps : List Str) (sp : Sp) (f : Addr) (fd : FuncData) : Prop where
  G : FnOk P w K mg base (L2N.CX P w) k f fd ps sp
  m : Meth K C x f
  b : Binds K fd ps []
structure CalX (P : Program) (w : World) (K : PySem.W.Frag) (mg : Str → Option Value) (base : Heap) (x : Str) (k : Nat) (ps : List Str) (sp : Sp) (f : Addr) (fd : FuncData) : Prop where
  G : FnOk P w K mg base (L2N.CX P w) k f fd ps sp
  m : mg x = some (.ref f)
  kp : PySem.W.keepIn K (.ref f) = true
  b : Binds K fd ps []
section
variable {P : Program} {w : World} {K : PySem.W.Frag} {mg : Str → Option Value} {base : Heap}
theorem ok_cwX {f fA fW : Addr} {fd dA dW : FuncData} {D : Nat → Addr} (F : Fun K "check_word" "check_word" sCw f fd) (cAl : CalN P w K mg base "alphabet" 1 ["letters"] spAl fA dA) (R : Errs K mg fW D) (GW : FnOk P w K mg base CX0 1 fW dW ["self", "what"] (spW K)) (bW : Binds K dW ["self", "what"] []) :
    FnOk P w K mg base (L2N.CX P w) 3 f fd ["letters", "word"] (spCwX D) := by
  refine XR.ok_out F scCw (fun vs H Q E h => ?_) (fun cdv A outer s H vs Q E hr h => ?_)
  · obtain ⟨k, s, rfl, _⟩ := h
    rfl
  · obtain ⟨k, z, rfl, ⟨zl, k1, k4, i0, c0, hc0, bad, good⟩, kk⟩ := h
    have hr1 : Room 1 _ := hr.mono (by decide)
    have hr2 : Room 2 _ := hr
    refine ⟨_, pss_cons (ps_set (i := 2) scCw.nd rfl (.inl rfl) (pe_call cAl.G hr1 rfl cAl.m cAl.kp cAl.b .nil pass0 (pa_cons (pv 0) pa_nil)))
      (pss_one (ps_for PassesOwn.leaving rfl (pi_str (pv 1)) (pg_name (i := 3) scCw.nd rfl (.inl rfl))
        (pss_one (ps_if (pt_cmpR op_notIn_sign (pv 3) (pv 2) (by rfl))
          (pss_one (L2N.ps_raise rfl (L2N.takes_of rfl rfl rfl rfl) (XR.pmk_err (R.oex 2 (by decide)) (R.ini 2 (by decide)) R.fn GW hr2 bW .nil pass0 (by rfl) R.m2 (pa_cons (pv 1) pa_nil))))
          pss_nil)))), ?_⟩
    refine ⟨_, rfl, k, rfl, k1, k4, ?_⟩
    refine ⟨_, rfl, _, rfl, for_it (walk_str (z := z)) (fun i σ H' => i ≤ i0 ∧ ∃ y, σ = [some (.int (k : Int)), some (.str z), some (.str (abK k)), y] ∧ H' = H) ⟨Nat.zero_le _, none, rfl, rfl⟩ (fun _ _ _ _ _ => trivial) ?_ ?_⟩
    · rintro i x σ H1 H2 hi ⟨le, y, rfl, rfl⟩ ⟨rfl, c, hc, rfl⟩
      refine ⟨_, rfl, _, rfl, c, abK k, rfl, rfl, _, rfl, ?_⟩
      by_cases e : i = i0
      · subst e
        rw [hc0] at hc
        obtain rfl := Option.some.inj hc
        rw [decide_eq_false bad]
        refine iteT ?_
        exact ⟨_, rfl, (by show 1 ≤ 1000; decide), raise_in (R.oex 2 (by decide)) (R.no 2 (by decide)) kk⟩
      · rw [decide_eq_true (good i (by omega) c hc)]
        exact iteF ⟨by omega, _, rfl, rfl⟩
    · rintro σ H1 ⟨le, _⟩
      have : i0 < z.cps.size := by
        rcases Nat.lt_or_ge i0 z.cps.size with h | h
        · exact h
        · rw [Array.getElem?_eq_none h] at hc0
          cases hc0
      omega
variable {C CM : Addr} {D : Nat → Addr}
/-- self.letters and word -/
theorem ok_rwaX {f fC : Addr} {fd dC : FuncData} (F : Fun K "_row_above" "Machine._row_above" sRwa f fd) (TM : TxtM K mg CM) (cCw : CalX P w K mg base "check_word" 3 ["letters", "word"] (spCwX D) fC dC) : FnOk P w K mg base (L2N.CX P w) 4 f fd ["self", "word"] (spBadM C CM D) := by
  refine XR.ok_out F scRwa (fun vs H Q E h => ?_) (fun cdv A outer s H vs Q E hr h => ?_)
  · obtain ⟨N, p, ab, m, z, rfl, _⟩ := h
    rfl
  · obtain ⟨N, p, ab, m, z, rfl, hm, bw, k⟩ := h
    obtain ⟨dx, vS, vT, vE, hp, _⟩ := hm.ex
    refine ⟨_, pss_cons (ps_expr (pe_callS (E := fun _ => E) cCw.G hr (by rfl) cCw.m cCw.kp cCw.b (fun σ => L2N.passAt (L2N.takes_of rfl rfl rfl rfl) σ) (pa_cons (pe_fld (pv 0) rfl) (pa_cons (pv 1) pa_nil)))) (pss_cons ps_never (pss_cons ps_never (pss_one  ps_never))), ?_⟩
    exact ⟨_, rfl, p, CM, dx, _, _, rfl, hp, TM.cl, TM.nL, mf_l, _, rfl, m.k, z, rfl, bw, k⟩
theorem ok_colX {f fC : Addr} {fd dC : FuncData} (F : Fun K "column" "Machine.column" sCol f fd) (TM : TxtM K mg CM) (cCw : CalX P w K mg base "check_word" 3 ["letters", "word"] (spCwX D) fC dC) : FnOk P w K mg base (L2N.CX P w) 4 f fd ["self", "word"] (spBadM C CM D) := by
  refine XR.ok_out F scCol (fun vs H Q E h => ?_) (fun cdv A outer s H vs Q E hr h => ?_)
  · obtain ⟨N, p, ab, m, z, rfl, _⟩ := h
    rfl
  · obtain ⟨N, p, ab, m, z, rfl, hm, bw, k⟩ := h
    obtain ⟨dx, vS, vT, vE, hp, _⟩ := hm.ex
    refine ⟨_, pss_cons (ps_expr (pe_callS (E := fun _ => E) cCw.G hr (by rfl) cCw.m cCw.kp cCw.b (fun σ => L2N.passAt (L2N.takes_of rfl rfl rfl rfl) σ) (pa_cons (pe_fld (pv 0) rfl) (pa_cons (pv 1) pa_nil)))) (pss_cons ps_never (pss_cons ps_never (pss_cons ps_never (pss_one  ps_never)))), ?_⟩
    exact ⟨_, rfl, p, CM, dx, _, _, rfl, hp, TM.cl, TM.nL, mf_l, _, rfl, m.k, z, rfl, bw, k⟩
theorem ok_tabX {f fC : Addr} {fd dC : FuncData} (F : Fun K "table" "Machine.table" sTab f fd) (TM : TxtM K mg CM) (cCw : CalX P w K mg base "check_word" 3 ["letters", "word"] (spCwX D) fC dC) : FnOk P w K mg base (L2N.CX P w) 4 f fd ["self", "word"] (spBadM C CM D) := by
  refine XR.ok_out F scTab (fun vs H Q E h => ?_) (fun cdv A outer s H vs Q E hr h => ?_)
  · obtain ⟨N, p, ab, m, z, rfl, _⟩ := h
    rfl
  · obtain ⟨N, p, ab, m, z, rfl, hm, bw, k⟩ := h
    obtain ⟨dx, vS, vT, vE, hp, _⟩ := hm.ex
    refine ⟨_, pss_cons (ps_expr (pe_callS (E := fun _ => E) cCw.G hr (by rfl) cCw.m cCw.kp cCw.b (fun σ => L2N.passAt (L2N.takes_of rfl rfl rfl rfl) σ) (pa_cons (pe_fld (pv 0) rfl) (pa_cons (pv 1) pa_nil)))) (pss_cons ps_never (pss_cons ps_never (pss_cons ps_never (pss_one  ps_never)))), ?_⟩
    exact ⟨_, rfl, p, CM, dx, _, _, rfl, hp, TM.cl, TM.nL, mf_l, _, rfl, m.k, z, rfl, bw, k⟩
theorem ok_rowX {f fR : Addr} {fd dR : FuncData} (F : Fun K "row" "Machine.row" sRow f fd) (TM : TxtM K mg CM) (cRw : MetX P w K mg base CM "_row_above" 4 ["self", "word"] (spBadM C CM D) fR dR) : FnOk P w K mg base (L2N.CX P w) 5 f fd ["self", "word"] (spBadM C CM D) := by
  refine XR.ok_out F scRow (fun vs H Q E h => ?_) (fun cdv A outer s H vs Q E hr h => ?_)
  · obtain ⟨N, p, ab, m, z, rfl, _⟩ := h
    rfl
  · obtain ⟨N, p, ab, m, z, rfl, hm, bw, k⟩ := h
    obtain ⟨dx, vS, vT, vE, hp, _⟩ := hm.ex
    refine ⟨_, pss_cons (ps_asg (XR.pe_methS (E := fun _ => E) (pv 0) TM.cl cRw.m cRw.G hr cRw.b .nil (fun σ => L2N.passAt (L2N.takes_of rfl rfl rfl rfl) σ) (pa_cons (pv 1) pa_nil)) (pg_tup rfl (pgs_cons (pg_name (i := 2) scRow.nd rfl (.inl rfl)) (pgs_cons (pg_name (i := 3) scRow.nd rfl (.inl rfl)) pgs_nil)))) (pss_one  ps_never), ?_⟩
    exact ⟨_, rfl, p, dx, _, rfl, hp, mf_no (by decide +kernel) (by decide +kernel) (by decide +kernel) (by decide +kernel) (by decide +kernel), _, rfl, N, p, ab, m, z, rfl, hm, bw, k⟩
theorem ok_numX {f fR : Addr} {fd dR : FuncData} (F : Fun K "number" "Machine.number" sNum f fd) (TM : TxtM K mg CM) (cRw : MetX P w K mg base CM "_row_above" 4 ["self", "word"] (spBadM C CM D) fR dR) : FnOk P w K mg base (L2N.CX P w) 5 f fd ["self", "word"] (spBadM C CM D) := by
  refine XR.ok_out F scNum (fun vs H Q E h => ?_) (fun cdv A outer s H vs Q E hr h => ?_)
  · obtain ⟨N, p, ab, m, z, rfl, _⟩ := h
    rfl
  · obtain ⟨N, p, ab, m, z, rfl, hm, bw, k⟩ := h
    obtain ⟨dx, vS, vT, vE, hp, _⟩ := hm.ex
    refine ⟨_, pss_cons (ps_asg (XR.pe_methS (E := fun _ => E) (pv 0) TM.cl cRw.m cRw.G hr cRw.b .nil (fun σ => L2N.passAt (L2N.takes_of rfl rfl rfl rfl) σ) (pa_cons (pv 1) pa_nil)) (pg_tup rfl (pgs_cons (pg_name (i := 2) scNum.nd rfl (.inl rfl)) (pgs_cons (pg_name (i := 3) scNum.nd rfl (.inl rfl)) pgs_nil)))) (pss_cons ps_never (pss_one  ps_never)), ?_⟩
    exact ⟨_, rfl, p, dx, _, rfl, hp, mf_no (by decide +kernel) (by decide +kernel) (by decide +kernel) (by decide +kernel) (by decide +kernel), _, rfl, N, p, ab, m, z, rfl, hm, bw, k⟩
theorem ok_callX {f fR : Addr} {fd dR : FuncData} (F : Fun K "__call__" "Machine.__call__" sCall f fd) (TM : TxtM K mg CM) (cNu : MetX P w K mg base CM "number" 5 ["self", "word"] (spBadM C CM D) fR dR) : FnOk P w K mg base (L2N.CX P w) 6 f fd ["self", "word"] (spBadM C CM D) := by
  refine XR.ok_out F scCall (fun vs H Q E h => ?_) (fun cdv A outer s H vs Q E hr h => ?_)
  · obtain ⟨N, p, ab, m, z, rfl, _⟩ := h
    rfl
  · obtain ⟨N, p, ab, m, z, rfl, hm, bw, k⟩ := h
    obtain ⟨dx, vS, vT, vE, hp, _⟩ := hm.ex
    refine ⟨_, pss_one (ps_ret (XR.pe_methS (E := fun _ => E) (pv 0) TM.cl cNu.m cNu.G hr cNu.b .nil (fun σ => L2N.passAt (L2N.takes_of rfl rfl rfl rfl) σ) (pa_cons (pv 1) pa_nil))), ?_⟩
    exact ⟨_, rfl, p, dx, _, rfl, hp, mf_no (by decide +kernel) (by decide +kernel) (by decide +kernel) (by decide +kernel) (by decide +kernel), _, rfl, N, p, ab, m, z, rfl, hm, bw, k⟩
end
end RX

set_option Elab.async false
set_option maxRecDepth 100000
namespace RX
open PySem L2 L2H XH LX VA
abbrev sAo : Stmt := topS 59
abbrev sBadW : Stmt := topS 60
theorem scAo : FnScope ["machine", "word", "kind"] ["machine", "word", "kind"] (defScope sAo) := ⟨rfl, rfl, rfl, by decide +kernel, rfl, by decide +kernel, by decide +kernel⟩
theorem scBw : FnScope ["machine", "word", "kind", "e"] ["machine", "word", "kind"] (defScope sBadW) := ⟨rfl, rfl, rfl, by decide +kernel, rfl, by decide +kernel, by decide +kernel⟩
abbrev sBadWs : Stmt := topS 61
theorem scBs : FnScope ["feed", "machine", "letters", "word", "signs", "at", "bad", "kind"] ["feed", "machine", "letters"] (defScope sBadWs) := ⟨rfl, rfl, rfl, by decide +kernel, rfl, by decide +kernel, by decide +kernel⟩
def spAoX (C CM : Addr) (D : Nat → Addr) : Sp := fun vs H _ E => ∃ (N : Addr → Prop) (p ab : Addr) (m : Mc) (s : Str) (kd : Int), vs = [.ref p, .str s, .int kd] ∧ MachAt C CM N H p ab m ∧ BadWd m.k s ∧ ∀ dd H', Flies H (.str s) dd H' → E (.ref (D 2)) (some dd) H'
def spBw (C CM : Addr) : Sp := fun vs H Q _ => ∃ (N : Addr → Prop) (p ab : Addr) (m : Mc) (s : Str) (kd : Int), vs = [.ref p, .str s, .int kd] ∧ MachAt C CM N H p ab m ∧ BadWd m.k s ∧ ∀ H', Same H H' → Q (.bl true) H'
def spBs (C CM : Addr) : Sp := fun vs H Q _ => ∃ (N : Addr → Prop) (a cl p ab : Addr) (m : Mc), vs = [.ref a, .ref p, .int (m.k : Int)] ∧ FeedAt H a cl ∧ MachAt C CM N H p ab m ∧ N a ∧ ab ≠ a ∧ ∀ H', FeedAt H' a cl → But a H H' → Q (.bl true) H'
structure CallX (P : Program) (w : World) (K : PySem.W.Frag) (mg : Str → Option Value) (base : Heap) (C CM : Addr) (D : Nat → Addr) (f : Addr) : Prop where
  o : StX.CallO K CM f
  R : FnR P w K mg base (L2N.CX P w) 6 f (fun vs H Q E => spBadM C CM D (vs ++ []) H Q E)
section
variable {P : Program} {w : World} {K : PySem.W.Frag} {mg : Str → Option Value} {base : Heap} {C CM : Addr} {D : Nat → Addr}
theorem ok_aoX {f fN fCl fR fC fT : Addr} {fd dN dR dC dT : FuncData} (F : Fun K "_law_asked_one" "_law_asked_one" sAo f fd) (TM : TxtM K mg CM) (cNu : MetX P w K mg base CM "number" 5 ["self", "word"] (spBadM C CM D) fN dN) (cCa : CallX P w K mg base C CM D fCl)
    (cMr : MetX P w K mg base CM "row" 5 ["self", "word"] (spBadM C CM D) fR dR) (cMc : MetX P w K mg base CM "column" 4 ["self", "word"] (spBadM C CM D) fC dC) (cMt : MetX P w K mg base CM "table" 4 ["self", "word"] (spBadM C CM D) fT dT) : FnOk P w K mg base (L2N.CX P w) 7 f fd ["machine", "word", "kind"] (spAoX C CM D) := by
  refine XR.ok_out F scAo (fun vs H Q E h => ?_) (fun cdv A outer s H vs Q E hr h => ?_)
  · obtain ⟨N, p, ab, m, z, kd, rfl, _⟩ := h
    rfl
  · obtain ⟨N, p, ab, m, z, kd, rfl, hm, bw, k⟩ := h
    have hr5 : Room 5 _ := hr.mono (by decide)
    have hr4 : Room 4 _ := hr.mono (by decide)
    obtain ⟨dx, vS, vT, vE, hp, _⟩ := hm.ex
    refine ⟨_, pss_cons (ps_if (pt_cmpR op_eq (pv 2) pe_int (nomark _)) (pss_one (ps_ret (XR.pe_methS (E := fun _ => E) (pv 0) TM.cl cNu.m cNu.G hr5 cNu.b .nil (fun σ => L2N.passAt (L2N.takes_of rfl rfl rfl rfl) σ) (pa_cons (pv 1) pa_nil)))) pss_nil)
      (pss_cons (ps_if (pt_cmpR op_eq (pv 2) pe_int (nomark _)) (pss_one (ps_ret (StX.pe_callO (E := E) (pv 0) cCa.o cCa.R hr (L2N.passes_call (L2N.takes_of rfl rfl rfl rfl) fun _ _ _ _ h => h) (pa_cons (pv 1) pa_nil)))) pss_nil)
      (pss_cons (ps_if (pt_cmpR op_eq (pv 2) pe_int (nomark _)) (pss_one (ps_ret (XR.pe_methS (E := fun _ => E) (pv 0) TM.cl cMr.m cMr.G hr5 cMr.b .nil (fun σ => L2N.passAt (L2N.takes_of rfl rfl rfl rfl) σ) (pa_cons (pv 1) pa_nil)))) pss_nil)
      (pss_cons (ps_if (pt_cmpR op_eq (pv 2) pe_int (nomark _)) (pss_one (ps_ret (XR.pe_methS (E := fun _ => E) (pv 0) TM.cl cMc.m cMc.G hr4 cMc.b .nil (fun σ => L2N.passAt (L2N.takes_of rfl rfl rfl rfl) σ) (pa_cons (pv 1) pa_nil)))) pss_nil)
      (pss_one (ps_ret (XR.pe_methS (E := fun _ => E) (pv 0) TM.cl cMt.m cMt.G hr4 cMt.b .nil (fun σ => L2N.passAt (L2N.takes_of rfl rfl rfl rfl) σ) (pa_cons (pv 1) pa_nil))))))), ?_⟩
    have no : ∀ {x : Str}, ¬ x = "_above" → ¬ x = "end" → ¬ x = "steps" → ¬ x = "start" → ¬ x = "letters" → (mf (m.k : Int) vS vT vE ab).lookup x = none := mf_no
    refine ⟨_, rfl, rfl, _, rfl, ite2 (fun _ => ?_) (fun _ => ?_)⟩
    · exact ⟨_, rfl, p, dx, _, rfl, hp, no (by decide +kernel) (by decide +kernel) (by decide +kernel) (by decide +kernel) (by decide +kernel), _, rfl, N, p, ab, m, z, rfl, hm, bw, k⟩
    refine ⟨_, rfl, rfl, _, rfl, ite2 (fun _ => ?_) (fun _ => ?_)⟩
    · exact ⟨_, rfl, p, rfl, _, rfl, .inr ⟨_, _, hp⟩, N, p, ab, m, z, rfl, hm, bw, k⟩
    refine ⟨_, rfl, rfl, _, rfl, ite2 (fun _ => ?_) (fun _ => ?_)⟩
    · exact ⟨_, rfl, p, dx, _, rfl, hp, no (by decide +kernel) (by decide +kernel) (by decide +kernel) (by decide +kernel) (by decide +kernel), _, rfl, N, p, ab, m, z, rfl, hm, bw, k⟩
    refine ⟨_, rfl, rfl, _, rfl, ite2 (fun _ => ?_) (fun _ => ?_)⟩
    · exact ⟨_, rfl, p, dx, _, rfl, hp, no (by decide +kernel) (by decide +kernel) (by decide +kernel) (by decide +kernel) (by decide +kernel), _, rfl, N, p, ab, m, z, rfl, hm, bw, k⟩
    · exact ⟨_, rfl, p, dx, _, rfl, hp, no (by decide +kernel) (by decide +kernel) (by decide +kernel) (by decide +kernel) (by decide +kernel), _, rfl, N, p, ab, m, z, rfl, hm, bw, k⟩
theorem ok_bw {f fO fW fK fU : Addr} {fd dO dK dU : FuncData} (F : Fun K "_law_bad_word" "_law_bad_word" sBadW f fd) (R : Errs K mg fW D) (cO : CalX P w K mg base "_law_asked_one" 7 ["machine", "word", "kind"] (spAoX C CM D) fO dO)
    (cM : CalP P w K mg base "_law_marks" 1 ["e"] (spMarks D) fK dK) (cU : CalP P w K mg base "_law_due_marks" 1 ["k"] spDue fU dU) : FnOk P w K mg base CX0 8 f fd ["machine", "word", "kind"] (spBw C CM) := by
  refine F.ok scBw (fun vs H Q E h => ?_) (fun cdv A outer s H vs Q E hr h => ?_)
  · obtain ⟨N, p, ab, m, z, kd, rfl, _⟩ := h
    rfl
  · have hr1 : Room 1 _ := hr.mono (by decide)
    refine ⟨_, pss_cons (L2N.ps_try_as (i := 3) (tb := fun W => tDrop (tCallS (spAoX C CM D) (WE W) (tCons (tVar 0) (tCons (tVar 1) (tCons (tVar 2) tNil)))))
        (ts := fun a cls d => tRet (tAndV (tOp rEq (tXf a cls d (D 2) "what" (tVar 3)) (tVar 1)) (tMrk a cls d D (tVar 3) (tC (.int 2))))) (Wout := fun _ _ _ _ => False) rfl rfl scBw.nd rfl rfl ⟨rfl, by decide, Or.inl R.m10⟩ nothing_out
        (fun W pn xe tk _ => pss_one (ps_expr (by exact (pe_callS (E := WE W) cO.G hr (by rfl) cO.m cO.kp cO.b (fun σ => L2N.passAt tk σ) (pa_cons (pv 0) (pa_cons (pv 1) (pa_cons (pv 2) pa_nil)))))))
        (fun a oe cls d pn hz hf => pss_one (ps_ret (pe_and (pe_cmpR op_eq (pe_xf (R.xf 2 (by decide)) (R.no 2 (by decide)) hz.zc hf (pv 3)) (pv 1) (nomark _)) (pe_one (pe_imp (mrk_told (mono_var 3) (mono_c _) hz hf)
          (pe_cmpR (op_eqD (unitsM hr _)) (pe_callP cM.G (roomH_mark hr1 _) (hot_of hz hf) List.mem_cons_self (by rfl) cM.m cM.kp cM.b pass_at0 (pa_cons (pv 3) pa_nil)) (pe_callP cU.G (roomH_mark hr1 _) (hot_of hz hf) List.mem_cons_self (by rfl) cU.m cU.kp cU.b pass_at0 (pa_cons pe_int pa_nil)) (nomark _))))))))
      (pss_one (ps_ret pe_bl)), ?_⟩
    obtain ⟨N, p, ab, m, z, kd, rfl, hm, bw, k⟩ := h
    refine ⟨_, rfl, _, rfl, _, rfl, N, p, ab, m, z, kd, rfl, hm, bw, fun dd H' fl => ?_⟩
    have s0 : Same H H' := fl.s
    refine ⟨true, R.exm 2 (by decide), fun _ a na => ?_, fun q => Bool.noConfusion q⟩
    refine ⟨_, rfl, rfl, rfl, dd, _, .str z, rfl, fl.x, rfl, _, rfl, rfl, true, (by rw [decide_eq_true rfl]), iteT ?_⟩
    exact ⟨_, rfl, rfl, 2, dd, _, by decide, rfl, rfl, fl.x, fun H2 s2 => ⟨rfl, Same.refl _, fun H3 s3 => k H3 (s0.trans (s2.trans s3))⟩⟩
end
end RX

set_option Elab.async false
set_option maxRecDepth 100000
namespace RX
open PySem L2 L2H XH LX VA
theorem cut_to {u : List Nat} {i : Nat} : cutS (wd u) none (some (i : Int)) = wd (u.take i) := by
  unfold cutS
  rw [HT.sIx_nat, HT.sIx_none, wd_len, List.drop_zero, Nat.sub_zero, wd_cps, ← List.map_take]
  by_cases h : i ≤ u.length
  · rw [Nat.min_eq_left h]
    rfl
  · rw [Nat.min_eq_right (by omega), List.take_of_length_le (Nat.le_refl _), List.take_of_length_le (by omega)]
    rfl
theorem cut_from {u : List Nat} {i : Nat} : cutS (wd u) (some (i : Int)) none = wd (u.drop i) := by
  unfold cutS
  rw [HT.sIx_nat, HT.sIx_none, wd_len, wd_cps, ← List.map_drop, List.take_of_length_le (by rw [List.length_map, List.length_drop]; omega)]
  by_cases h : i ≤ u.length
  · rw [Nat.min_eq_left h]
    rfl
  · rw [Nat.min_eq_right (by omega), List.drop_of_length_le (Nat.le_refl _), List.drop_of_length_le (by omega)]
    rfl
def signsK (k : Nat) : Str := cutS abcd (some (k : Int)) none ++ PySem.Str.ofString "eABz 01.*-"
theorem signs_len : ∀ k : Nat, k ≤ 4 → (signsK k).length = 14 - k := by decide +kernel
theorem signs_bad {k j : Nat} (hk : k ≤ 4) (hj : j < 14 - k) : ∃ c, atI (signsK k).cps.toList (j : Int) = some c ∧ c ∉ (abK k).cps.toList := by
  have all : ∀ k : Nat, k ≤ 4 → ∀ j : Nat, j < 14 - k → ((atI (signsK k).cps.toList (j : Int)).any fun c => !decide (c ∈ (abK k).cps.toList)) = true := by decide +kernel
  have h := all k hk j hj
  cases e : atI (signsK k).cps.toList (j : Int) with
  | none => rw [e] at h; cases h
  | some c =>
    rw [e] at h
    refine ⟨c, rfl, fun z => ?_⟩
    rw [Option.any_some, decide_eq_true z] at h
    cases h
theorem badWd_of {k i c : Nat} {u : List Nat} (k1 : 1 ≤ k) (k4 : k ≤ 4) (hu : Ltk k u) (hl : u.length ≤ 400) (hi : i ≤ u.length) (hc : c ∉ (abK k).cps.toList) : BadWd k ((wd (u.take i) ++ ⟨#[c]⟩) ++ wd (u.drop i)) := by
  have sz : (wd (u.take i)).cps.size = i := by
    have := wd_len (w := u.take i)
    rw [List.length_take, Nat.min_eq_left hi] at this
    exact this
  refine ⟨?_, k1, k4, i, c, ?_, hc, fun j hj d hd => ?_⟩
  · rw [PySem.Str.length_append, PySem.Str.length_append, wd_len, wd_len, List.length_take, List.length_drop]
    have : (⟨#[c]⟩ : Str).length = 1 := rfl
    omega
  · rw [PySem.Str.cps_append, PySem.Str.cps_append, Array.getElem?_append_left (by rw [Array.size_append, sz]; exact Nat.lt_succ_self i), Array.getElem?_append_right (by rw [sz]; exact Nat.le_refl i), sz, Nat.sub_self]
    rfl
  · rw [PySem.Str.cps_append, PySem.Str.cps_append, Array.getElem?_append_left (by rw [Array.size_append, sz]; exact Nat.lt_succ_of_lt hj), Array.getElem?_append_left (by rw [sz]; exact hj), wd_at, List.getElem?_take_of_lt hj, List.getElem?_eq_getElem (by omega)] at hd
    obtain rfl := Option.some.inj hd
    exact mem_abK (hu _ (List.getElem_mem _))
section
variable {P : Program} {w : World} {K : PySem.W.Frag} {mg : Str → Option Value} {base : Heap} {C CM : Addr}
theorem ok_bs {f fD fW fB : Addr} {fd dD dW dB : FuncData} (F : Fun K "_law_bad_words" "_law_bad_words" sBadWs f fd) (T : TxtL mg) (cDr : CalN P w K mg base "_law_draw" 1 ["feed", "limit"] spDraw fD dD) (cWo : CalN P w K mg base "_law_word" 2 ["feed", "letters", "length"] spWo fW dW)
    (cBw : CalN P w K mg base "_law_bad_word" 8 ["machine", "word", "kind"] (spBw C CM) fB dB) : FnOk P w K mg base CX0 9 f fd ["feed", "machine", "letters"] (spBs C CM) := by
  refine F.ok scBs (fun vs H Q E h => ?_) (fun cdv A outer s H vs Q E hr h => ?_)
  · obtain ⟨N, a, cl, p, ab, m, rfl, _⟩ := h
    rfl
  · obtain ⟨N, a, cl, p, ab, m, rfl, hF, hm, na, ne, k⟩ := h
    have hr1 : Room 1 _ := hr.mono (by decide)
    have hr2 : Room 2 _ := hr.mono (by decide)
    have hr8 : Room 8 _ := hr
    have k1 := hm.k1
    have k4 := hm.k4
    refine ⟨_, pss_cons (ps_set (i := 3) scBs.nd rfl (.inl rfl) (pe_call cWo.G hr2 rfl cWo.m cWo.kp cWo.b .nil pass0 (pa_cons (pv 0) (pa_cons (pv 2) (pa_cons (pe_call cDr.G hr1 rfl cDr.m cDr.kp cDr.b .nil pass0 (pa_cons (pv 0) (pa_cons pe_int pa_nil))) pa_nil)))))
      (pss_cons (ps_set (i := 4) scBs.nd rfl (.inl rfl) (pe_op op_add_str (pe_slice sl_str pe_str (po_some (pv 2)) po_none) pe_str))
      (pss_cons (ps_set (i := 5) scBs.nd rfl (.inl rfl) (pe_call cDr.G hr1 rfl cDr.m cDr.kp cDr.b .nil pass0 (pa_cons (pv 0) (pa_cons (pe_op op_add (pe_callB call_len_str (by rfl) T.len PySem.boot_len (pa_cons (pv 3) pa_nil)) pe_int) pa_nil))))
      (pss_cons (ps_set (i := 6) scBs.nd rfl (.inl rfl) (pe_op op_add_str (pe_op op_add_str (pe_slice sl_str (pv 3) po_none (po_some (pv 5))) (pe_ix ix_str (pv 4) (pe_call cDr.G hr1 rfl cDr.m cDr.kp cDr.b .nil pass0 (pa_cons (pv 0) (pa_cons (pe_callB call_len_str (by rfl) T.len PySem.boot_len (pa_cons (pv 4) pa_nil)) pa_nil))) (fun _ _ => rfl))) (pe_slice sl_str (pv 3) (po_some (pv 5)) po_none)))
      (pss_cons (ps_for PassesOwn.never rfl (pi_range1 (by rfl) T.range (pa_cons pe_int pa_nil)) (pg_name (i := 7) scBs.nd rfl (.inl rfl))
        (pss_one (ps_if (pt_not (pt_val (pe_call cBw.G hr8 rfl cBw.m cBw.kp cBw.b .nil pass0 (pa_cons (pv 1) (pa_cons (pv 6) (pa_cons (pv 7) pa_nil))))))
          (pss_one ps_never)
          pss_nil)))
      (pss_one (ps_ret pe_bl)))))), ?_⟩
    refine ⟨_, rfl, _, rfl, _, rfl, a, cl, 5, rfl, hF, by decide, by decide, fun y H1 y0 y1 f1 b1 => ?_⟩
    obtain ⟨n, rfl⟩ : ∃ n : Nat, y = (n : Int) := ⟨y.toNat, by omega⟩
    refine ⟨a, cl, m.k, n, rfl, f1, k1, k4, by omega, fun u H2 ul hu f2 b2 => ?_⟩
    have ls : (signsK m.k).length = 14 - m.k := signs_len m.k k4
    have lz : (signsK m.k).length ≤ sizeLine := by
      rw [ls]
      exact Nat.le_trans (Nat.sub_le 14 m.k) (show 14 ≤ sizeLine by decide)
    have sb : ∀ j, j < 14 - m.k → ∃ c, atI (signsK m.k).cps.toList (j : Int) = some c ∧ c ∉ (abK m.k).cps.toList := fun j hj => signs_bad k4 hj
    have eS : cutS (PySem.Str.ofString "abcd") (some (m.k : Int)) none ++ PySem.Str.ofString "eABz 01.*-" = signsK m.k := rfl
    generalize signsK m.k = sg at *
    refine ⟨_, rfl, _, rfl, _, rfl, abcd_len, _, _, rfl, rfl, by rw [← PySem.Str.length_append, eS]; exact lz, ?_⟩
    rw [eS]
    have lu : (wd u).length ≤ sizeLine := by rw [wd_len]; exact Nat.le_of_lt (small1000 (by omega))
    have lw : (wd u).length = u.length := wd_len
    refine ⟨_, rfl, _, rfl, _, rfl, lu, _, _, rfl, rfl, a, cl, ((wd u).length : Int) + 1, rfl, f2, by omega, by omega, fun y H3 y0' y1' f3 b3 => ?_⟩
    obtain ⟨i, rfl⟩ : ∃ n : Nat, y = (n : Int) := ⟨y.toNat, by omega⟩
    have iu : i ≤ u.length := by omega
    refine ⟨_, rfl, _, rfl, _, rfl, _, rfl, lu, ?_⟩
    rw [cut_to]
    refine ⟨_, rfl, _, rfl, _, rfl, _, rfl, lz, a, cl, (sg.length : Int), rfl, f3, by omega, by omega, fun y H4 y0'' y1'' f4 b4 => ?_⟩
    obtain ⟨j, rfl⟩ : ∃ n : Nat, y = (n : Int) := ⟨y.toNat, by omega⟩
    obtain ⟨c, hc, bad⟩ := sb j (by omega)
    have sz : ∀ {x : Nat}, x ≤ 500 → x ≤ sizeLine := fun h => Nat.le_trans h (by decide)
    have c1 : (⟨#[c]⟩ : Str).length = 1 := rfl
    refine ⟨_, _, c, rfl, rfl, lz, hc, _, _, rfl, rfl, sz (by rw [wd_len, c1, List.length_take]; omega), _, rfl, _, rfl, _, rfl, _, rfl, lu, ?_⟩
    rw [cut_from]
    refine ⟨_, _, rfl, rfl, sz (by rw [PySem.Str.length_append, wd_len, wd_len, c1, List.length_take, List.length_drop]; omega), ?_⟩
    have bw := badWd_of k1 k4 hu (by omega) iu bad
    generalize hz : (wd (u.take i) ++ ⟨#[c]⟩) ++ wd (u.drop i) = z at *
    have b14 := b1.trans (b2.trans (b3.trans b4))
    refine ⟨5, rfl, by decide, by decide, for_range (n := 5) (fun _ σ G => ∃ o7, σ = [some (.ref a), some (.ref p), some (.int (m.k : Int)), some (.str (wd u)), some (.str sg), some (.int (i : Int)), some (.str z), o7] ∧ FeedAt G a cl ∧ But a H G) ⟨none, rfl, f4, b14⟩ ?_ ?_⟩
    · rintro t σ G ht ⟨o7, rfl, fG, bG⟩
      refine ⟨_, rfl, _, rfl, _, rfl, N, p, ab, m, z, _, rfl, hm.but bG ne na fG.there, bw, fun G2 s2 => ⟨true, rfl, iteF ⟨_, rfl, fG.same s2, bG.trans (Same.but s2)⟩⟩⟩
    · rintro σ G ⟨o7, rfl, fG, bG⟩
      exact k G fG bG
end
end RX

set_option Elab.async false
set_option maxRecDepth 100000
namespace RX
open PySem L2 L2H XH LX VA VM
open RQ (Hg Bt)
abbrev sLaw : Stmt := topS 66
theorem scL : FnScope ["script", "feed", "parts", "letters", "passed", "machine", "step", "line", "steps", "other", "word", "due"] ["script"] (defScope sLaw) := ⟨rfl, rfl, rfl, by decide +kernel, rfl, by decide +kernel, by decide +kernel⟩
abbrev outL0 : Scope := { kind := .function, names := [(".0", .local), ("step", .local), ("tuple", .globalImplicit)], isGenerator := false, isCoroutine := false }
theorem psz_msz {m : Mc} (z : PszA m) : Msz m 5801 6162 := by
  refine ⟨?_, ?_, fun x _ => ?_, by decide, by decide⟩
  · obtain ⟨M, m0, bM, o⟩ := z.s.ex
    exact szr_of m0 bM o
  · obtain ⟨M, m0, bM, o⟩ := z.e.ex
    exact szr_of m0 bM o
  · obtain ⟨M, m0, bM, o⟩ := (z.t x).ex
    exact szt_of m0 bM o
structure CallN (P : Program) (w : World) (K : PySem.W.Frag) (mg : Str → Option Value) (base : Heap) (C CM : Addr) (f : Addr) : Prop where
  o : StX.CallO K CM f
  R : FnR P w K mg base CX0 38 f (fun vs H Q E => spNum C CM (vs ++ []) H Q E)
theorem at_rat {C : Addr} {N : Addr → Prop} {H : Hp} {p : Addr} {q : Rat} (h : At C N H (.ref p) (.rat q)) : RatAt C H p q.num (q.den : Int) := by
  obtain ⟨_, e, h⟩ := h.ratV
  cases e
  exact h
theorem at_pr {C : Addr} {N : Addr → Prop} {H : Hp} {p : Addr} {q : Rat} (h : At C N H (.ref p) (prD q)) : PrQ H p q := by
  obtain ⟨_, e, h, _⟩ := h.pair
  cases e
  exact h
def spLaw (K : PySem.W.Frag) : Sp := fun vs H Q _ => ∃ (a : Addr) (ns : List Int), vs = [.ref a] ∧ SqL K H a (ns.map V.int) ∧ ns.length ≤ 63 ∧ ∀ H', Q (.bl true) H'
theorem row_wide {C : Addr} {N M : Addr → Prop} {H : Hp} {v : V} {n : Nat} {u : Nat → Rat} (h : At C N H v (ratR n u)) (w : ∀ b, M b → N b ∨ ∃ xs, H b = some (.lst xs)) : At C M H v (ratR n u) := by
  obtain ⟨q, rfl⟩ := h.tupV
  have nq := h.notin
  obtain ⟨xs, hx, lx, ex⟩ := At.tupE h
  refine .tup hx (fun z => ?_) lx fun i x d h1 h2 => ?_
  · rcases w _ z with y | ⟨ys, y⟩
    · exact nq y
    · rw [hx] at y; cases y
  · obtain ⟨_, rfl⟩ := rng_lt h2
    have hd := ex i x _ h1 h2
    obtain ⟨p, rfl, hR⟩ := hd.ratV
    refine .rat hR fun z => ?_
    rcases w _ z with y | ⟨ys, y⟩
    · exact hd.notin y
    · obtain ⟨dx, hR⟩ := hR
      rw [hR] at y; cases y
theorem tup_wide {C : Addr} {N M : Addr → Prop} {H : Hp} {v : V} {n : Nat} {f : Nat → Dat} (h : At C N H v (.tup (rng n f))) (w : ∀ b, M b → N b ∨ ∃ xs, H b = some (.lst xs)) (k : ∀ i, i < n → ∀ v, At C N H v (f i) → At C M H v (f i)) : At C M H v (.tup (rng n f)) := by
  obtain ⟨q, rfl⟩ := h.tupV
  have nq := h.notin
  obtain ⟨xs, hx, lx, ex⟩ := At.tupE h
  refine .tup hx (fun z => ?_) lx fun i x d h1 h2 => ?_
  · rcases w _ z with y | ⟨ys, y⟩
    · exact nq y
    · rw [hx] at y; cases y
  · obtain ⟨hi, rfl⟩ := rng_lt h2
    exact k i hi x (ex i x _ h1 h2)
theorem MachAt.wide {C CM : Addr} {N M : Addr → Prop} {H : Hp} {p ab : Addr} {m : Mc} (h : MachAt C CM N H p ab m) (e : H ab = some (.lst (List.replicate m.k .non))) (w : ∀ b, M b → N b ∨ ∃ xs, H b = some (.lst xs)) (ma : M ab) : MachAt C CM M H p ab m := by
  obtain ⟨⟨dx, vS, vT, vE, hp, hS, hT, hE⟩, np, na, _, k1, k4, n1⟩ := h
  refine ⟨⟨dx, vS, vT, vE, hp, row_wide hS w, tup_wide hT w fun x _ v h => tup_wide h w fun i _ v h => row_wide h w, row_wide hE w⟩, fun z => ?_, ma, ⟨_, e, List.length_replicate, fun x hx => .inl ?_⟩, k1, k4, n1⟩
  · rcases w _ z with y | ⟨ys, y⟩
    · exact np y
    · rw [hp] at y; cases y
  · rw [List.getElem?_replicate, if_pos hx]
theorem le_rats {n : Nat} {u : Nat → Rat} : Le (ratsL n u) (sqR n u) := Le.lstR fun _ _ => .refl _
theorem le_ratsT {m : Mc} : Le (.lst (rng m.k fun x => .lst (rng m.n fun i => ratsL m.n (m.t x i)))) (sqS m) := Le.lstR fun _ _ => Le.lstR fun _ _ => Le.lstR fun _ _ => .refl _
/-- the steps, as they are passed -/
theorem Psd.atT {C : Addr} {H0 H : Hp} {r rs rt re : Addr} {sa : Nat → Addr} {ra : Nat → Nat → Addr} {m : Mc} (h : Psd C H0 H r rs rt re sa ra m) : At C (Al H0) H (.ref rt) (.lst (rng m.k fun x => .lst (rng m.n fun i => ratsL m.n (m.t x i)))) := by
  refine .lst h.t (fun z => z h.ft) (by rw [refs_len, rng_len]) fun x v d hv hd => ?_
  obtain ⟨hx, rfl⟩ := rng_lt hd
  rw [refs_at hx] at hv
  obtain rfl := Option.some.inj hv
  refine .lst (h.st x hx) (fun z => z (h.fs x hx)) (by rw [refs_len, rng_len]) fun i v d hv hd => ?_
  obtain ⟨hi, rfl⟩ := rng_lt hd
  rw [refs_at hi] at hv
  obtain rfl := Option.some.inj hv
  exact h.rw x hx i hi
theorem FeedAt.but2 {H H' : Hp} {a cl b : Addr} (h : FeedAt H a cl) (k : But b H H') (n1 : b ≠ a) (n2 : b ≠ cl) : FeedAt H' a cl := by
  obtain ⟨cs, i, pp, ss, ff⟩ := h
  exact ⟨cs, i, pp, ss, k _ _ ff.hA n1.symm, k _ _ ff.hC n2.symm, ff.ne, ff.i0, ff.p0, ff.s0, ff.s1, ff.len, ff.nn⟩
/-- all that may change -/
def Mx (a ab ac : Addr) (H3 H4 : Hp) : Addr → Prop := fun b => b = a ∨ b = ab ∨ b = ac ∨ (H3 b = none ∧ ∃ xs, H4 b = some (.lst xs))
section
variable {P : Program} {w : World} {K : PySem.W.Frag} {mg : Str → Option Value} {base : Heap}
set_option maxHeartbeats 2000000 in
theorem ok_law {f fFe fDr fDn fSh fLl fI fM fWo fDo fLw fPd fSa fNu fCl fBs C CM : Addr} {fd dFe dDr dDn dSh dLl dI dM dWo dDo dLw dPd dSa dNu dBs : FuncData} (F : Fun K "law" "law" sLaw f fd) (T : TxtL mg) (TP : TxtP mg) (TR : TxtR K mg C) (TM : TxtM K mg CM)
    (M : Mk K C fI) (GI : FnOk P w K mg base CX0 33 fI dI ["self", "top", "bottom"] (spInitB C)) (bI : Binds K dI ["self", "top", "bottom"] []) (bI1 : ∃ ds, Vals [V.int 1] ds ∧ Binds K dI ["self", "top", "bottom"] ds)
    (MM : Mk K CM fM) (GM : FnOk P w K mg base CX0 2 fM dM ["self", "letters", "start", "steps", "end"] (spMi C CM)) (bM : Binds K dM ["self", "letters", "start", "steps", "end"] [])
    (cFe : CalN P w K mg base "_law_feed" 1 ["script"] (spFeed K) fFe dFe) (cDr : CalN P w K mg base "_law_draw" 1 ["feed", "limit"] spDraw fDr dDr) (cDn : CalN P w K mg base "_law_drawn" 36 ["feed"] (spDn C) fDn dDn) (cSh : CalN P w K mg base "_law_shapes" 38 ["feed", "parts"] (spShp C) fSh dSh)
    (cLl : CalN P w K mg base "_law_lists" 36 ["parts"] (spLls C) fLl dLl) (cWo : CalN P w K mg base "_law_word" 2 ["feed", "letters", "length"] spWo fWo dWo) (cDo : CalN P w K mg base "_law_dot" 35 ["one", "two"] (spDo C) fDo dDo) (cLw : CalN P w K mg base "_law_row" 37 ["parts", "word"] (spLw C) fLw dLw)
    (cPd : CalN P w K mg base "_law_pictured" 6 ["machine", "parts"] (spPd C CM) fPd dPd) (cSa : CalN P w K mg base "_law_same" 2 ["actual", "due"] (spSame C) fSa dSa) (cNu : MetN P w K mg base CM "number" 37 ["self", "word"] (spNum C CM) fNu dNu) (cCa : CallN P w K mg base C CM fCl)
    (cBs : CalN P w K mg base "_law_bad_words" 9 ["feed", "machine", "letters"] (spBs C CM) fBs dBs) : FnOk P w K mg base CX0 40 f fd ["script"] (spLaw K) := by
  obtain ⟨ds, vds, bI1⟩ := bI1
  refine F.ok scL (fun vs H Q E h => ?_) (fun cdv A outer s H vs Q E hr h => ?_)
  · obtain ⟨a, ns, rfl, _⟩ := h
    rfl
  · obtain ⟨sc, ns, rfl, hS, hl, kend⟩ := h
    have hr1 : Room 1 _ := hr.mono (by decide)
    have hr2 : Room 2 _ := hr.mono (by decide)
    have hr3 : Room 3 _ := hr.mono (by decide)
    have hr6 : Room 6 _ := hr.mono (by decide)
    have hr9 : Room 9 _ := hr.mono (by decide)
    have hr34 : Room 34 _ := hr.mono (by decide)
    have hr35 : Room 35 _ := hr.mono (by decide)
    have hr36 : Room 36 _ := hr.mono (by decide)
    have hr37 : Room 37 _ := hr.mono (by decide)
    have hr38 : Room 38 _ := hr.mono (by decide)
    refine ⟨_, pss_cons (ps_set (i := 1) scL.nd rfl (.inl rfl) (pe_call cFe.G hr1 rfl cFe.m cFe.kp cFe.b .nil pass0 (pa_cons (pv 0) pa_nil)))
      (pss_cons (ps_set (i := 2) scL.nd rfl (.inl rfl) (pe_call cDn.G hr36 rfl cDn.m cDn.kp cDn.b .nil pass0 (pa_cons (pv 1) pa_nil)))
      (pss_cons (ps_set (i := 3) scL.nd rfl (.inl rfl) (pe_callB call_len_seq (by rfl) T.len PySem.boot_len (pa_cons (pe_ix ix_list (pv 2) pe_int (fun _ _ => rfl)) pa_nil)))
      (pss_cons (ps_if (pt_not (pt_val (pe_call cSh.G hr38 rfl cSh.m cSh.kp cSh.b .nil pass0 (pa_cons (pv 1) (pa_cons (pv 2) pa_nil)))))
        (pss_one ps_never)
        pss_nil)
      (pss_cons (ps_set (i := 4) scL.nd rfl (.inl rfl) (pe_call cLl.G hr36 rfl cLl.m cLl.kp cLl.b .nil pass0 (pa_cons (pv 2) pa_nil)))
      (pss_cons (ps_set (i := 5) scL.nd rfl (.inl rfl) (pe_make MM GM hr3 rfl TM.mgM bM .nil pass0 (pa_cons (pv 3) (pa_cons (pe_ix ix_list (pv 4) pe_int (fun _ _ => rfl)) (pa_cons (pe_ix ix_list (pv 4) pe_int (fun _ _ => rfl)) (pa_cons (pe_ix ix_list (pv 4) pe_int (fun _ _ => rfl)) pa_nil))))))
      (pss_cons (ps_set (i := 8) scL.nd rfl (.inl rfl) (pe_callTy (T := "tuple") call_tuple_of (by rfl) TP.tup (by decide +kernel) (pa_cons (pe_lc (own := [("step", 6)]) (g := gName 6) (tt := tYes) rfl scL.nd (pi_list (pe_ix ix_list (pv 4) pe_int (fun _ _ => rfl))) (blkOk_by (N := ["script", "feed", "parts", "letters", "passed", "machine", "step", "line", "steps", "other", "word", "due"]) (sc := (defScope sLaw)) (by decide +kernel)) (fun _ _ _ _ _ => (pg_name (i := 6) scL.nd rfl (.inl rfl))) (fun _ _ _ _ _ => pts_nil) (fun _ _ _ _ _ => (pe_callTy (T := "tuple") (show CallR _ (.type "tuple") (rTupO K) from call_tupK) (by rfl) TP.tup (by decide +kernel) (pa_cons (pe_lc (own := [("line", 7)]) (g := gName 7) (tt := tYes) rfl scL.nd (pi_listK (K := K) rfl (pv 6)) (blkOk_by (N := ["script", "feed", "parts", "letters", "passed", "machine", "step", "line", "steps", "other", "word", "due"]) (sc := outL0) (by decide +kernel)) (fun _ _ _ _ _ => (pg_name (i := 7) scL.nd rfl (.inl rfl))) (fun _ _ _ _ _ => pts_nil) (fun _ _ _ _ _ => (pe_callTy (T := "tuple") (show CallR _ (.type "tuple") (rTupO K) from call_tupK) (by rfl) TP.tup (by decide +kernel) (pa_cons (pv 7) pa_nil)))) pa_nil)))) pa_nil)))
      (pss_cons (ps_set (i := 9) scL.nd rfl (.inl rfl) (pe_make MM GM hr3 rfl TM.mgM bM .nil pass0 (pa_cons (pv 3) (pa_cons (pe_callTy (T := "tuple") call_tuple_of (by rfl) TP.tup (by decide +kernel) (pa_cons (pe_ix ix_list (pv 4) pe_int (fun _ _ => rfl)) pa_nil)) (pa_cons (pv 8) (pa_cons (pe_callTy (T := "tuple") call_tuple_of (by rfl) TP.tup (by decide +kernel) (pa_cons (pe_ix ix_list (pv 4) pe_int (fun _ _ => rfl)) pa_nil)) pa_nil))))))
      (pss_cons (ps_set (i := 10) scL.nd rfl (.inl rfl) (pe_call cWo.G hr2 rfl cWo.m cWo.kp cWo.b .nil pass0 (pa_cons (pv 1) (pa_cons (pv 3) (pa_cons (pe_call cDr.G hr1 rfl cDr.m cDr.kp cDr.b .nil pass0 (pa_cons (pv 1) (pa_cons pe_int pa_nil))) pa_nil)))))
      (pss_cons (ps_set (i := 11) scL.nd rfl (.inl rfl) (pe_call cDo.G hr35 rfl cDo.m cDo.kp cDo.b .nil pass0 (pa_cons (pe_call cLw.G hr37 rfl cLw.m cLw.kp cLw.b .nil pass0 (pa_cons (pv 2) (pa_cons (pv 10) pa_nil))) (pa_cons (pe_ix ix_list (pv 2) pe_int (fun _ _ => rfl)) pa_nil))))
      (pss_cons (ps_if (PW.pt (pw_or (pt_not (pt_val (pe_call cPd.G hr6 rfl cPd.m cPd.kp cPd.b .nil pass0 (pa_cons (pv 5) (pa_cons (pv 2) pa_nil))))) (pw_or1 (pt_not (pt_val (pe_call cPd.G hr6 rfl cPd.m cPd.kp cPd.b .nil pass0 (pa_cons (pv 9) (pa_cons (pv 2) pa_nil))))))))
        (pss_one ps_never)
        pss_nil)
      (pss_cons (ps_for PassesOwn.never rfl (pi_list (pe_op op_cat (pe_lst (pa_cons (pe_ix ix_list (pv 4) pe_int (fun _ _ => rfl)) (pa_cons (pe_ix ix_list (pv 4) pe_int (fun _ _ => rfl)) pa_nil))) (pe_ix ix_list (pe_ix ix_list (pv 4) pe_int (fun _ _ => rfl)) pe_int (fun _ _ => rfl)))) (pg_name (i := 7) scL.nd rfl (.inl rfl))
        (pss_cons (ps_expr (pe_bm PySem.F.plainAttrs_list PySem.F.slot_list_append PySem.F.type_list_append mt_append (pv 7) (pa_cons (pe_make M GI hr34 rfl TR.mgC bI1 vds pass0 (pa_cons pe_int pa_nil)) pa_nil)))
        (pss_one (ps_asg (pe_make M GI hr34 rfl TR.mgC bI .nil pass0 (pa_cons pe_int (pa_cons pe_int pa_nil))) (pg_sub (pv 7) pe_int set_list)))))
      (pss_cons (ps_for PassesOwn.never rfl (pi_list (pe_ix ix_list (pv 4) pe_int (fun _ _ => rfl))) (pg_name (i := 6) scL.nd rfl (.inl rfl))
        (pss_one (ps_expr (pe_bm PySem.F.plainAttrs_list PySem.F.slot_list_append PySem.F.type_list_append mt_append (pv 6) (pa_cons (pe_lst (pa_cons (pe_make M GI hr34 rfl TR.mgC bI1 vds pass0 (pa_cons pe_int pa_nil)) pa_nil)) pa_nil)))))
      (pss_cons (ps_expr (pe_bm0 PySem.F.plainAttrs_list PySem.F.slot_list_pop PySem.F.type_list_pop mt_pop (pe_ix ix_list (pv 4) pe_int (fun _ _ => rfl))))
      (pss_cons (ps_if (PW.pt (pw_or (pt_not (pt_val (pe_call cPd.G hr6 rfl cPd.m cPd.kp cPd.b .nil pass0 (pa_cons (pv 5) (pa_cons (pv 2) pa_nil))))) (pw_or1 (pt_not (pt_val (pe_call cSa.G hr2 rfl cSa.m cSa.kp cSa.b .nil pass0 (pa_cons (pe_meth (pv 5) TM.cl cNu.m cNu.G hr37 cNu.b .nil pass0 (pa_cons (pv 10) pa_nil)) (pa_cons (pv 11) pa_nil))))))))
        (pss_one ps_never)
        pss_nil)
      (pss_cons (ps_if (PW.pt (pw_or (pt_not (pt_val (pe_call cBs.G hr9 rfl cBs.m cBs.kp cBs.b .nil pass0 (pa_cons (pv 1) (pa_cons (pv 5) (pa_cons (pv 3) pa_nil)))))) (pw_or1 (pt_not (pt_val (pe_call cBs.G hr9 rfl cBs.m cBs.kp cBs.b .nil pass0 (pa_cons (pv 1) (pa_cons (pv 9) (pa_cons (pv 3) pa_nil)))))))))
        (pss_one ps_never)
        pss_nil)
      (pss_one (ps_ret (pe_and (pe_call cSa.G hr2 rfl cSa.m cSa.kp cSa.b .nil pass0 (pa_cons (StX.pe_callO (pv 5) cCa.o cCa.R hr38 pass0 (pa_cons (pv 10) pa_nil)) (pa_cons (pv 11) pa_nil))) (pe_and (pe_call cSa.G hr2 rfl cSa.m cSa.kp cSa.b .nil pass0 (pa_cons (pe_meth (pv 9) TM.cl cNu.m cNu.G hr37 cNu.b .nil pass0 (pa_cons (pv 10) pa_nil)) (pa_cons (pv 11) pa_nil))) (pe_one (pe_call cPd.G hr6 rfl cPd.m cPd.kp cPd.b .nil pass0 (pa_cons (pv 9) (pa_cons (pv 2) pa_nil))))))))))))))))))))))), ?_⟩
    refine ⟨_, rfl, sc, ns, rfl, hS, hl, fun a cl H1 s1 nfe ncl f1 => ?_⟩
    have al1 : Alc (K1 a) H1 := fun b hb => by rw [show b = a from hb]; exact f1.there
    refine ⟨_, rfl, K1 a, a, cl, rfl, f1, al1, rfl, fun q m H2 f2 b2 nq hq2 sn => ?_⟩
    have k1 := sn.k1
    have k4 := sn.k4
    have n4 := sn.n4
    obtain ⟨qa, qb, qc, hy, ha, hb, hc⟩ := hq2.parts
    obtain ⟨xb, hxb, lxb, _⟩ := At.lstR hb
    refine ⟨_, rfl, q, _, 1, _, rfl, rfl, SqL.of hy, rfl, qb, xb, rfl, .inl (SqL.of hxb), ?_⟩
    rw [lxb]
    refine ⟨_, rfl, _, rfl, K1 a, a, cl, q, m, rfl, f2, hq2, rfl, k1, k4, n4, fun H3 f3 b3 => ⟨true, rfl, iteF ?_⟩⟩
    have hq3 := hq2.keep (keep_feed b3 f3)
    refine ⟨_, rfl, K1 a, q, m, rfl, hq3, k1, k4, by omega, fun r rs rt re sa ra H4 s4 pd => ?_⟩
    have f4 := f3.same s4
    have al4 : Alc (K1 a) H4 := fun b hb => by rw [show b = a from hb]; exact f4.there
    have sub : ∀ b, K1 a b → Al H3 b := fun b hb => by rw [show b = a from hb]; exact f3.there
    -- the machine
    refine ⟨_, rfl, _, rfl, r, _, 0, _, rfl, rfl, SqL.of pd.hr, rfl, _, rfl, r, _, 1, _, rfl, rfl, SqL.of pd.hr, rfl, _, rfl, r, _, 2, _, rfl, rfl, SqL.of pd.hr, rfl, fun p dx np nd ne => ?_⟩
    have np' : ¬ K1 a p := al4.fresh np
    have nd0 : H4 dx = none := nd
    have k3 : Keep (And1 (K1 a) p) H4 (upd (upd H4 dx (.own p)) p (.ins CM dx [])) := (Keep.new nd).trans (Keep.upd (.inr rfl))
    have lift : ∀ {v : V} {d : Dat}, At C (K1 a) H4 v d → At C (And1 (K1 a) p) (upd (upd H4 dx (.own p)) p (.ins CM dx [])) v d := fun h => (h.and np).keep k3
    refine ⟨K1 a, p, dx, _, _, _, m, rfl, upd_same, lift ((pd.s.less sub).weak le_rats), lift ((pd.atT.less sub).weak le_ratsT), lift ((pd.e.less sub).weak le_rats), k1, k4, by omega, al4.keep (M := And1 (K1 a) p) k3, np', fun ab H5 keep nab hM hA5 => ⟨rfl, ?_⟩⟩
    have free2 : ∀ {G : Hp} {x y z : Addr} {o o' : HO}, upd (upd G x o) y o' z = none → G z = none := fun {G x y z o o'} h => by
      cases q : G z with
      | none => rfl
      | some oo =>
        have e : upd (upd G x o) y o' z ≠ none := by
          by_cases e1 : z = y
          · rw [e1, upd_same]; intro z; cases z
          · rw [upd_ne e1]
            by_cases e2 : z = x
            · rw [e2, upd_same]; intro z; cases z
            · rw [upd_ne e2, q]; intro z; cases z
        exact absurd h e
    have nab4 : H4 ab = none := free2 nab
    have s45 : Same H4 H5 := fun c o hc => keep c o (by rw [upd_ne (ne_of_none hc np), upd_ne (ne_of_none hc nd0)]; exact hc) (ne_of_none hc np)
    clear keep lift k3
    -- the steps as tuples
    have pd5 := pd.keep (H' := H5) (Same.keep s45)
    have al5 : Alc (K1 a) H5 := al4.keep (Same.keep (N := Emp) s45)
    refine ⟨_, rfl, r, _, 1, _, rfl, rfl, SqL.of pd5.hr, rfl, rt, rfl, ⟨_, SqL.of pd5.t⟩, fun D nD => ?_⟩
    have nND := al5.fresh nD
    refine lc_it (walk_list (K := K) (a := rt) (xs := refs m.k sa)) (fun i G => Bld C Emp (K1 a) H5 D (rng i fun x => ratT m.n m.n (m.t x)) G) (bld0 nD) (fun i G _ b => SqL.of (b.k.same _ _ pd5.t)) ?_ ?_
    · rintro i x G1 G2 hi bd ⟨rfl, hx⟩
      rw [refs_len] at hi
      rw [refs_at hi] at hx
      obtain rfl := Option.some.inj hx
      have pdG := pd5.keep (H' := G2) (Same.keep bd.k.same)
      have alG := bd.alc al5
      refine ⟨rfl, _, rfl, sa i, rfl, ⟨_, SqL.of (pdG.st i hi)⟩, fun L nL => ?_⟩
      have nNL := alG.fresh nL
      refine lc_it (walk_list (K := K) (a := sa i) (xs := refs m.n (ra i))) (fun j G => Bld C Emp (And1 (K1 a) D) G2 L (rng j fun i' => ratR m.n (m.t i i')) G) (bld0 nL) (fun j G _ b => SqL.of (b.k.same _ _ (pdG.st i hi))) ?_ ?_
      · rintro j y G3 G4 hj b2 ⟨rfl, hyj⟩
        rw [refs_len] at hj
        rw [refs_at hj] at hyj
        obtain rfl := Option.some.inj hyj
        have h5 : At C (K1 a) H5 (.ref (ra i j)) (sqR m.n (m.t i j)) := ((pd5.rw i hi j hj).less sub).weak le_rats
        have h4 := b2.old nL (fun _ z => z.elim) (bd.old nD (fun _ z => z.elim) h5)
        refine ⟨rfl, ?_⟩
        dsimp only [tYes]
        rw [if_pos rfl]
        refine tCB_tup (K := K) (te := tVar 7) (q := ra i j) (fun Q h => ⟨_, rfl, h⟩) h4 (b2.alc alG) ?_
        intro z G5 s5 hz
        obtain ⟨acc, h1, h2, h3⟩ := b2.step nL (Same.keep s5) (fun _ z => z.elim) id hz
        refine ⟨acc, h1, by rw [h2, rng_len]; exact small1000 (by omega), ?_⟩
        rw [rng_succ]
        exact h3
      · rintro G3 b2
        rw [refs_len] at b2
        obtain ⟨ys, hL, lL, eL⟩ := (b2.done nNL).lstE
        refine ⟨L, ys, rfl, .inl ⟨SqL.of hL, fun rr nr => ?_⟩⟩
        have hz := At.newT (alG.keep b2.k) nr lL eL
        obtain ⟨acc, h1, h2, h3⟩ := bd.step nD (b2.k.trans (Keep.new nr)) (fun _ z => z.elim) id hz
        refine ⟨acc, h1, by rw [h2, rng_len]; exact small1000 (by omega), ?_⟩
        rw [rng_succ]
        exact h3
    rintro G1 bd
    rw [refs_len] at bd
    obtain ⟨ys, hD, l2, e2⟩ := (bd.done nND).lstE
    refine ⟨D, ys, rfl, .inl ⟨SqL.of hD, fun rT nrT => ?_⟩⟩
    have hT6 := At.newT (al5.keep bd.k) nrT l2 e2
    have s56 := bd.k.same.trans (Same.upd (o := .tup ys) nrT)
    generalize upd G1 rT (.tup ys) = H6 at *
    clear bd hD e2
    have s46 := s45.trans s56
    have pd6 := pd.keep (H' := H6) (Same.keep s46)
    -- the other machine
    have hS6 : At C (K1 a) H6 (.ref rs) (ratsL m.n m.s) := pd6.s.less sub
    have al6 : Alc (K1 a) H6 := al4.keep (Same.keep (N := Emp) s46)
    obtain ⟨xS, hxS, lS, eS⟩ := hS6.lstE
    refine ⟨_, rfl, _, rfl, r, _, 0, _, rfl, rfl, SqL.of pd6.hr, rfl, rs, xS, rfl, .inl ⟨SqL.of hxS, fun tS ntS => ?_⟩⟩
    have s67 : Same H6 (upd H6 tS (.tup xS)) := Same.upd ntS
    have htS : At C (K1 a) (upd H6 tS (.tup xS)) (.ref tS) (ratR m.n m.s) := At.newT al6 ntS lS eS
    generalize upd H6 tS (.tup xS) = H7 at *
    have s47 := s46.trans s67
    have pd7 := pd.keep (H' := H7) (Same.keep s47)
    have hE7 : At C (K1 a) H7 (.ref re) (ratsL m.n m.e) := pd7.e.less sub
    have al7 : Alc (K1 a) H7 := al4.keep (Same.keep (N := Emp) s47)
    obtain ⟨xE, hxE, lE, eE⟩ := hE7.lstE
    refine ⟨_, rfl, _, rfl, r, _, 2, _, rfl, rfl, SqL.of pd7.hr, rfl, re, xE, rfl, .inl ⟨SqL.of hxE, fun tE ntE => ?_⟩⟩
    have s78 : Same H7 (upd H7 tE (.tup xE)) := Same.upd ntE
    have htE : At C (K1 a) (upd H7 tE (.tup xE)) (.ref tE) (ratR m.n m.e) := At.newT al7 ntE lE eE
    generalize upd H7 tE (.tup xE) = H8 at *
    have s48 := s47.trans s78
    have al8 : Alc (K1 a) H8 := al4.keep (Same.keep (N := Emp) s48)
    intro p2 dx2 np2 nd2 ne2
    have k3 : Keep (And1 (K1 a) p2) H8 (upd (upd H8 dx2 (.own p2)) p2 (.ins CM dx2 [])) := (Keep.new nd2).trans (Keep.upd (.inr rfl))
    have lift : ∀ {v : V} {d : Dat}, At C (K1 a) H8 v d → At C (And1 (K1 a) p2) (upd (upd H8 dx2 (.own p2)) p2 (.ins CM dx2 [])) v d := fun h => (h.and np2).keep k3
    refine ⟨K1 a, p2, dx2, _, _, _, m, rfl, upd_same, lift (((htS.same s78)).weak le_row), lift (((hT6.same s67).same s78).weak le_steps), lift (htE.weak le_row), k1, k4, by omega, al8.keep (M := And1 (K1 a) p2) k3, al8.fresh np2, fun ac H9 keep nac hM2 hA2 => ⟨rfl, ?_⟩⟩
    have nac8 : H8 ac = none := free2 nac
    have s89 : Same H8 H9 := fun c o hc => keep c o (by rw [upd_ne (ne_of_none hc np2), upd_ne (ne_of_none hc nd2)]; exact hc) (ne_of_none hc np2)
    clear keep lift k3
    have s59 := s56.trans (s67.trans (s78.trans s89))
    have s49 := s45.trans s59
    have nac4 : H4 ac = none := s48.free nac8
    have nab3 : H3 ab = none := s4.free nab4
    have nac3 : H3 ac = none := s4.free nac4
    have wide1 : ∀ b, Mx a ab ac H3 H4 b → And1 (K1 a) ab b ∨ ∃ xs, H9 b = some (.lst xs) := fun b z => by
      rcases z with z | z | z | ⟨_, xs, z⟩
      · exact .inl (.inl z)
      · exact .inl (.inr z)
      · exact .inr ⟨_, by rw [z]; exact hA2⟩
      · exact .inr ⟨xs, s49 _ _ z⟩
    have wide2 : ∀ b, Mx a ab ac H3 H4 b → And1 (K1 a) ac b ∨ ∃ xs, H9 b = some (.lst xs) := fun b z => by
      rcases z with z | z | z | ⟨_, xs, z⟩
      · exact .inl (.inl z)
      · exact .inr ⟨_, by rw [z]; exact s59 _ _ hA5⟩
      · exact .inl (.inr z)
      · exact .inr ⟨xs, s49 _ _ z⟩
    have hm9 : MachAt C CM (Mx a ab ac H3 H4) H9 p ab m := (hM.same s59).wide (s59 _ _ hA5) wide1 (.inr (.inl rfl))
    have hn9 : MachAt C CM (Mx a ab ac H3 H4) H9 p2 ac m := hM2.wide hA2 wide2 (.inr (.inr (.inl rfl)))
    have f9 : FeedAt H9 a cl := f4.same s49
    have al9 : Alc (Mx a ab ac H3 H4) H9 := fun b z => by
      rcases wide1 b z with (z | z) | ⟨xs, z⟩
      · rw [show b = a from z]; exact f9.there
      · rw [z]; exact hm9.there
      · rw [z]; intro y; cases y
    have hq9 : At C (Mx a ab ac H3 H4) H9 (.ref q) (partsD m) := (hq3.grow (M := Mx a ab ac H3 H4) fun b z => by
      rcases z with z | z | z | ⟨z, _⟩
      · exact .inl z
      · exact .inr (by rw [z]; exact nab3)
      · exact .inr (by rw [z]; exact nac3)
      · exact .inr z).same (s4.trans s49)
    have hML : ∀ b, (H3 b = none ∧ ∃ xs, H4 b = some (.lst xs)) → Mx a ab ac H3 H4 b := fun b z => .inr (.inr (.inr z))
    have mxa : Mx a ab ac H3 H4 a := .inl rfl
    have mxb : Mx a ab ac H3 H4 ab := .inr (.inl rfl)
    have mxc : Mx a ab ac H3 H4 ac := .inr (.inr (.inl rfl))
    generalize Mx a ab ac H3 H4 = MX at *
    clear wide1 wide2 hM hM2 hT6 htS htE hS6 hE7
    have ba : ab ≠ a := (f3.ne_new nab3).1
    have bc : ab ≠ cl := (f3.ne_new nab3).2
    have ca : ac ≠ a := (f3.ne_new nac3).1
    have cc : ac ≠ cl := (f3.ne_new nac3).2
    have bac : ac ≠ ab := (ne_of_none ((s56.trans (s67.trans s78)) _ _ hA5) nac8).symm
    have psz := sn.psz
    have sz := psz_msz psz
    -- the word
    refine ⟨_, rfl, _, rfl, _, rfl, a, cl, 5, rfl, f9, by decide, by decide, fun y H10 y0 y1 f10 b10 => ?_⟩
    obtain ⟨n, rfl⟩ : ∃ n : Nat, y = (n : Int) := ⟨y.toNat, by omega⟩
    refine ⟨a, cl, m.k, n, rfl, f10, k1, k4, by omega, fun u H11 ul hu f11 b11 => ?_⟩
    have bA := b10.trans b11
    have kX : Keep MX H9 H11 := Keep.but bA mxa f11.there
    have hm11 := hm9.but bA ba mxa f11.there
    have hn11 := hn9.but bA ca mxa f11.there
    have hq11 := hq9.keep kX
    have al11 := al9.keep kX
    have lu : u.length ≤ 400 := by omega
    refine ⟨_, rfl, _, rfl, MX, q, m, u, rfl, hq11, al11, psz, hu, lu, fun rd H12 s12 hrd => ?_⟩
    have hq12 := hq11.same s12
    obtain ⟨qa2, qb2, qc2, hy2, ha2, hb2, hc2⟩ := hq12.parts
    refine ⟨_, rfl, q, _, 2, _, rfl, rfl, SqL.of hy2, rfl, MX, rd, qc2, m.n, rowN m u, m.e, rfl, hrd, hc2, al11.keep (Same.keep (N := Emp) s12), by omega, dotOk_end psz (row_big psz psz.s lu), fun rn H13 s13 nrn hrn => ?_⟩
    have s113 := s12.trans s13
    have hm13 := hm11.same s113
    have hn13 := hn11.same s113
    have hq13 := hq11.same s113
    have al13 := al11.keep (Same.keep (N := Emp) s113)
    -- the pictures
    refine ⟨_, rfl, _, rfl, MX, p, ab, q, m, rfl, hm13, hq13, al13, sn, fun H14 s14 => ⟨true, rfl, iteF ?_⟩⟩
    refine ⟨_, rfl, _, rfl, MX, p2, ac, q, m, rfl, hn13.same s14, hq13.same s14, al13.keep (Same.keep (N := Emp) s14), sn, fun H15 s15 => ⟨true, rfl, iteF ?_⟩⟩
    have s135 := s14.trans s15
    have hm15 := hm13.same s135
    have hn15 := hn13.same s135
    have hq15 := hq13.same s135
    have al15 := al13.keep (Same.keep (N := Emp) s135)
    have hrn15 := hrn.same s135
    have f15 := f11.same (s113.trans s135)
    have b915 : But a H9 H15 := bA.trans (Same.but (s113.trans s135))
    have pd15 := pd.keep (H' := H15) (((Same.keep s49).trans (Keep.but b915 (show Al H3 a from f3.there) f15.there)))
    have nb15 : ∀ b o, H4 b = some o → b ≠ a → H15 b = some o := fun b o h n => b915 _ _ (s49 _ _ h) n
    -- the lines
    have lnF : ∀ b, (b = rs ∨ b = re ∨ ∃ i, i < m.n ∧ b = ra 0 i) → H3 b = none ∧ (∃ xs, H4 b = some (.lst xs)) ∧ ∃ xs, H15 b = some (.lst xs) ∧ xs.length = m.n := fun b z => by
      rcases z with rfl | rfl | ⟨i, hi, rfl⟩
      · obtain ⟨⟨xs, h, l⟩, _⟩ := pd15.lns
        obtain ⟨⟨xs', h', _⟩, _⟩ := pd.lns
        exact ⟨al_none pd.s.notin, ⟨xs', h'⟩, xs, h, l⟩
      · obtain ⟨_, xs, h, l⟩ := pd15.lns
        obtain ⟨_, xs', h', _⟩ := pd.lns
        exact ⟨al_none pd.e.notin, ⟨xs', h'⟩, xs, h, l⟩
      · obtain ⟨xs, h, l⟩ := pd15.row k1 hi
        obtain ⟨xs', h', _⟩ := pd.row k1 hi
        exact ⟨al_none (pd.rw 0 k1 i hi).notin, ⟨xs', h'⟩, xs, h, l⟩
    refine ⟨_, rfl, r, _, 0, _, rfl, rfl, SqL.of pd15.hr, rfl, _, rfl, r, _, 2, _, rfl, rfl, SqL.of pd15.hr, rfl, (by show 2 ≤ sizeLine; decide), fun l1 nl1 => ?_⟩
    have sL1 : Same H15 (upd H15 l1 (.lst [.ref rs, .ref re])) := Same.upd nl1
    have hL1 : (upd H15 l1 (.lst [.ref rs, .ref re])) l1 = some (.lst [.ref rs, .ref re]) := upd_same
    generalize upd H15 l1 (.lst [.ref rs, .ref re]) = H16 at *
    have pd16 := pd15.keep (H' := H16) (Same.keep sL1)
    refine ⟨_, rfl, r, _, 1, _, rfl, rfl, SqL.of pd16.hr, rfl, rt, _, 0, _, rfl, rfl, SqL.of pd16.t, at_of (j := 0) rfl (refs_at k1), l1, sa 0, _, _, rfl, rfl, hL1, pd16.st 0 k1, by rw [refs_len]; exact Nat.le_of_lt (small1000 (by show 2 + m.n ≤ _; omega)), fun pL npL => ?_⟩
    have sL2 : Same H16 (upd H16 pL (.lst ([.ref rs, .ref re] ++ refs m.n (ra 0)))) := Same.upd npL
    have hL2 : (upd H16 pL (.lst ([.ref rs, .ref re] ++ refs m.n (ra 0)))) pL = some (.lst ([.ref rs, .ref re] ++ refs m.n (ra 0))) := upd_same
    generalize upd H16 pL (.lst ([.ref rs, .ref re] ++ refs m.n (ra 0))) = G0 at *
    have s150 := sL1.trans sL2
    have pd0 := pd15.keep (H' := G0) (Same.keep s150)
    have npLx : ∀ b, (b = rs ∨ b = re ∨ ∃ i, i < m.n ∧ b = ra 0 i) → pL ≠ b := fun b z => by
      obtain ⟨_, _, xs, h, _⟩ := lnF b z
      exact (ne_of_none (sL1 _ _ h) npL).symm
    refine ⟨pL, rfl, ⟨_, SqL.of hL2⟩, for_list (K := K) (a := pL) (xs := [.ref rs, .ref re] ++ refs m.n (ra 0)) (fun i σ G => ∃ o6 o7, σ = [some (.ref sc), some (.ref a), some (.ref q), some (.int (m.k : Int)), some (.ref r), some (.ref p), o6, o7, some (.ref rT), some (.ref p2), some (.str (wd u)), some (.ref rn)] ∧ Keep (fun b => b = rs ∨ b = re ∨ ∃ i, i < m.n ∧ b = ra 0 i) G0 G ∧ ∀ b, (b = rs ∨ b = re ∨ ∃ i, i < m.n ∧ b = ra 0 i) → ∃ xs, G b = some (.lst xs) ∧ xs.length ≤ 10 + i) ⟨_, _, rfl, Keep.refl, fun b z => ?_⟩ (fun i σ G _ h => ?_) ?_ ?_⟩
    · obtain ⟨_, _, xs, h, l⟩ := lnF b z
      exact ⟨xs, s150 _ _ h, by omega⟩
    · obtain ⟨_, _, _, kk, _⟩ := h
      exact SqL.of (kk.k _ _ hL2 fun z => npLx _ z rfl)
    · rintro i v σ G hv ⟨o6, o7, rfl, kk, len⟩
      have iB : i < 2 + m.n := by
        have := (List.getElem?_eq_some_iff.mp hv).1
        rw [List.length_append, refs_len] at this
        exact this
      obtain ⟨b, rfl, bL⟩ : ∃ b, v = .ref b ∧ (b = rs ∨ b = re ∨ ∃ i, i < m.n ∧ b = ra 0 i) := by
        have mem := List.mem_of_getElem? hv
        rcases List.mem_append.mp mem with z | z
        · rcases List.mem_cons.mp z with z | z
          · exact ⟨rs, z, .inl rfl⟩
          · exact ⟨re, List.mem_singleton.mp z, .inr (.inl rfl)⟩
        · unfold refs at z
          obtain ⟨j, hj, e⟩ := List.mem_map.mp z
          exact ⟨ra 0 j, e.symm, .inr (.inr ⟨j, List.mem_range.mp hj, rfl⟩)⟩
      obtain ⟨xs, hxs, lxs⟩ := len b bL
      refine ⟨_, rfl, .inl ⟨rfl, _, SqL.of hxs⟩, fun x dx nx nd _ => make4 (t := 7) (b := 1) (by decide) nx nd fun G2 s2 _ => ⟨rfl, b, xs, _, rfl, rfl, s2 _ _ hxs, small1000 (by omega), ?_⟩⟩
      have kb : Keep (fun b => b = rs ∨ b = re ∨ ∃ i, i < m.n ∧ b = ra 0 i) G2 (upd G2 b (.lst (xs ++ [.ref x]))) := Keep.upd bL
      have hb : (upd G2 b (.lst (xs ++ [.ref x]))) b = some (.lst (xs ++ [.ref x])) := upd_same
      have ob : ∀ c, c ≠ b → (upd G2 b (.lst (xs ++ [.ref x]))) c = G2 c := fun c h => upd_ne h
      generalize upd G2 b (.lst (xs ++ [.ref x])) = G3 at *
      refine fun x2 dx2 nx2 nd2 _ => make4 (t := 5) (b := 3) (by decide) nx2 nd2 fun G4 s4' _ => ⟨rfl, _, rfl, b, _, 0, 0, rfl, rfl, s4' _ _ hb, ixN_at (j := 0) rfl (by rw [List.length_append, List.length_singleton]; omega), _, _, rfl, ((kk.trans (Same.keep s2)).trans kb).trans ((Same.keep s4').trans (Keep.upd bL)), fun c z => ?_⟩
      by_cases e : c = b
      · rw [e, upd_same]
        exact ⟨_, rfl, by rw [List.length_set, List.length_append, List.length_singleton]; omega⟩
      · obtain ⟨zs, hz, lz⟩ := len c z
        exact ⟨zs, by rw [upd_ne e]; exact s4' _ _ (by rw [ob c e]; exact s2 _ _ hz), by omega⟩
    rintro σ G1 ⟨o6, o7, rfl, kk1, _⟩
    -- the steps
    have rL : ∀ b, (b = rs ∨ b = re ∨ ∃ i, i < m.n ∧ b = ra 0 i) → r ≠ b ∧ rt ≠ b ∧ ∀ x, x < m.k → sa x ≠ b := fun b z => by
      rcases z with rfl | rfl | ⟨i, hi, rfl⟩
      · exact ⟨pd.d8.1, pd.d4.1, fun x hx => (pd.d2 x hx).1⟩
      · exact ⟨pd.d8.2.2, pd.d4.2, fun x hx => (pd.d2 x hx).2⟩
      · exact ⟨(pd.d9 0 k1).2 i hi, pd.d6 0 k1 i hi, fun x hx => pd.d7 0 k1 x hx i hi⟩
    have hr1' : G1 r = some (.lst [.ref rs, .ref rt, .ref re]) := kk1.k _ _ pd0.hr fun z => (rL r z).1 rfl
    have ht1 : G1 rt = some (.lst (refs m.k sa)) := kk1.k _ _ pd0.t fun z => (rL rt z).2.1 rfl
    have hs1 : ∀ x, x < m.k → G1 (sa x) = some (.lst (refs m.n (ra x))) := fun x hx => kk1.k _ _ (pd0.st x hx) fun z => (rL (sa x) z).2.2 x hx rfl
    have ntS : ¬ ∃ x, x < m.k ∧ rt = sa x := fun ⟨x, hx, e⟩ => pd.d5 x hx e
    have nrS : ¬ ∃ x, x < m.k ∧ r = sa x := fun ⟨x, hx, e⟩ => (pd.d9 x hx).1 e
    refine ⟨_, rfl, r, _, 1, _, rfl, rfl, SqL.of hr1', rfl, rt, rfl, ⟨_, SqL.of ht1⟩, for_list (K := K) (a := rt) (xs := refs m.k sa) (fun i σ G => ∃ o6 o7, σ = [some (.ref sc), some (.ref a), some (.ref q), some (.int (m.k : Int)), some (.ref r), some (.ref p), o6, o7, some (.ref rT), some (.ref p2), some (.str (wd u)), some (.ref rn)] ∧ Keep (fun b => ∃ x, x < m.k ∧ b = sa x) G1 G ∧ ∀ b, (∃ x, x < m.k ∧ b = sa x) → ∃ xs, G b = some (.lst xs) ∧ xs.length ≤ 10 + i) ⟨_, _, rfl, Keep.refl, fun b z => ?_⟩ (fun i σ G _ h => ?_) ?_ ?_⟩
    · obtain ⟨x, hx, rfl⟩ := z
      exact ⟨_, hs1 x hx, by rw [refs_len]; omega⟩
    · obtain ⟨_, _, _, kk, _⟩ := h
      exact SqL.of (kk.k _ _ ht1 ntS)
    · rintro i v σ G hv ⟨o6, o7, rfl, kk, len⟩
      have iB : i < m.k := by
        have := (List.getElem?_eq_some_iff.mp hv).1
        rw [refs_len] at this
        exact this
      rw [refs_at iB] at hv
      obtain rfl := Option.some.inj hv
      obtain ⟨xs, hxs, lxs⟩ := len (sa i) ⟨i, iB, rfl⟩
      refine ⟨_, rfl, .inl ⟨rfl, _, SqL.of hxs⟩, fun x dx nx nd _ => make4 (t := 9) (b := 1) (by decide) nx nd fun G2 s2 _ => ⟨rfl, (by show 1 ≤ sizeLine; decide), fun l nl => ⟨sa i, xs, _, rfl, rfl, Same.upd nl _ _ (s2 _ _ hxs), small1000 (by omega), _, _, rfl, (kk.trans (Same.keep (s2.trans (Same.upd nl)))).trans (Keep.upd ⟨i, iB, rfl⟩), fun c z => ?_⟩⟩⟩
      by_cases e : c = sa i
      · rw [e, upd_same]
        exact ⟨_, rfl, by rw [List.length_append, List.length_singleton]; omega⟩
      · obtain ⟨zs, hz, lz⟩ := len c z
        exact ⟨zs, by rw [upd_ne e]; exact Same.upd nl _ _ (s2 _ _ hz), by omega⟩
    rintro σ G2 ⟨o6, o7, rfl, kk2, _⟩
    have hr2' : G2 r = some (.lst [.ref rs, .ref rt, .ref re]) := kk2.k _ _ hr1' nrS
    have ht2 : G2 rt = some (.lst (refs m.k sa)) := kk2.k _ _ ht1 ntS
    obtain ⟨yl, hyl⟩ := last_at (xs := refs m.k sa) (by rw [refs_len]; omega)
    refine ⟨_, rfl, r, _, 1, _, rfl, rfl, SqL.of hr2', rfl, .inl ⟨rfl, _, SqL.of ht2⟩, rt, _, yl, rfl, rfl, ht2, hyl, ?_⟩
    -- what has changed
    have tot : ∀ c o, H15 c = some o → ¬ (c = rs ∨ c = re ∨ ∃ i, i < m.n ∧ c = ra 0 i) → ¬ (∃ x, x < m.k ∧ c = sa x) → c ≠ rt → (upd G2 rt (.lst (refs m.k sa).dropLast)) c = some o := fun c o h n1 n2 n3 => by
      rw [upd_ne n3]
      exact kk2.k _ _ (kk1.k _ _ (s150 _ _ h) n1) n2
    have kall : Keep MX H15 (upd G2 rt (.lst (refs m.k sa).dropLast)) := by
      have h1 : Keep MX G0 G1 := kk1.more fun b z => hML b ⟨(lnF b z).1, (lnF b z).2.1⟩
      have h2 : Keep MX G1 G2 := kk2.more fun b z => by
        obtain ⟨x, hx, rfl⟩ := z
        exact hML _ ⟨pd.fs x hx, _, pd.st x hx⟩
      have h3 : Keep MX G2 (upd G2 rt (.lst (refs m.k sa).dropLast)) := Keep.upd (hML rt ⟨pd.ft, _, pd.t⟩)
      exact (((Same.keep s150).trans h1).trans h2).trans h3
    have old : ∀ c, H4 c = none → ¬ (c = rs ∨ c = re ∨ ∃ i, i < m.n ∧ c = ra 0 i) ∧ ¬ (∃ x, x < m.k ∧ c = sa x) ∧ c ≠ rt := fun c h => by
      refine ⟨fun z => ?_, fun ⟨x, hx, e⟩ => ?_, fun e => ?_⟩
      · obtain ⟨_, ⟨xs, h'⟩, _⟩ := lnF c z
        rw [h] at h'; cases h'
      · rw [e, pd.st x hx] at h; cases h
      · rw [e, pd.t] at h; cases h
    have old3 : ∀ c, H3 c ≠ none → ¬ (c = rs ∨ c = re ∨ ∃ i, i < m.n ∧ c = ra 0 i) ∧ ¬ (∃ x, x < m.k ∧ c = sa x) ∧ c ≠ rt := fun c h => by
      refine ⟨fun z => h (lnF c z).1, fun ⟨x, hx, e⟩ => ?_, fun e => ?_⟩
      · exact h (by rw [e]; exact pd.fs x hx)
      · exact h (by rw [e]; exact pd.ft)
    have f16 : FeedAt (upd G2 rt (.lst (refs m.k sa).dropLast)) a cl := by
      obtain ⟨cs, i, pp, ss, ff⟩ := f15
      have clA : H3 cl ≠ none := by
        obtain ⟨xs, h⟩ := f3.lst2
        rw [h]; intro z; cases z
      obtain ⟨x1, x2, x3⟩ := old3 a f3.there
      obtain ⟨y1, y2, y3⟩ := old3 cl clA
      exact ⟨cs, i, pp, ss, tot _ _ ff.hA x1 x2 x3, tot _ _ ff.hC y1 y2 y3, ff.ne, ff.i0, ff.p0, ff.s0, ff.s1, ff.len, ff.nn⟩
    have eb : (upd G2 rt (.lst (refs m.k sa).dropLast)) ab = H15 ab := by
      obtain ⟨xs, h, _⟩ := hm15.av
      obtain ⟨x1, x2, x3⟩ := old ab nab4
      rw [h]
      exact tot _ _ h x1 x2 x3
    have ec : (upd G2 rt (.lst (refs m.k sa).dropLast)) ac = H15 ac := by
      obtain ⟨xs, h, _⟩ := hn15.av
      obtain ⟨x1, x2, x3⟩ := old ac nac4
      rw [h]
      exact tot _ _ h x1 x2 x3
    have hm16 := hm15.keep kall eb
    have hn16 := hn15.keep kall ec
    have hq16 := hq15.keep kall
    have al16 := al15.keep kall
    have hrn16 := hrn15.keep kall
    generalize upd G2 rt (.lst (refs m.k sa).dropLast) = H17 at *
    clear tot old old3 eb ec kk1 kk2
    refine ⟨_, rfl, _, rfl, MX, p, ab, q, m, rfl, hm16, hq16, al16, sn, fun H18 s18 => ⟨true, rfl, iteF ?_⟩⟩
    have hm18 := hm16.same s18
    have hn18 := hn16.same s18
    have hq18 := hq16.same s18
    have al18 := al16.keep (Same.keep (N := Emp) s18)
    have hrn18 := hrn16.same s18
    have f18 := f16.same s18
    obtain ⟨dx3, vS3, vT3, vE3, hp3, _⟩ := hm18.ex
    refine ⟨_, rfl, p, dx3, _, rfl, hp3, mf_no (by decide +kernel) (by decide +kernel) (by decide +kernel) (by decide +kernel) (by decide +kernel), _, rfl, MX, p, ab, m, u, _, _, rfl, hm18, al18, hu, lu, sz, fun r3 H19 b3' nr3 hm19 hr3 => ?_⟩
    have k19 : Keep MX H18 H19 := Keep.but b3' mxb hm19.there
    have hn19 := hn18.but b3' bac mxb hm19.there
    have hq19 := hq18.keep k19
    have al19 := al18.keep k19
    have hrn19 := hrn18.keep k19
    have f19 := f18.but2 b3' ba bc
    refine ⟨_, rfl, _, _, _, _, rfl, at_rat hr3, at_pr hrn19, true, rfl, iteF ?_⟩
    -- strange words
    refine ⟨_, rfl, _, rfl, _, rfl, MX, a, cl, p, ab, m, rfl, f19, hm19, mxa, ba, fun H20 f20 b20 => ⟨true, rfl, iteF ?_⟩⟩
    have k20 : Keep MX H19 H20 := Keep.but b20 mxa f20.there
    have hm20 := hm19.but b20 ba mxa f20.there
    have hn20 := hn19.but b20 ca mxa f20.there
    refine ⟨_, rfl, _, rfl, _, rfl, MX, a, cl, p2, ac, m, rfl, f20, hn20, mxa, ca, fun H21 f21 b21 => ⟨true, rfl, iteF ?_⟩⟩
    have k21 : Keep MX H20 H21 := Keep.but b21 mxa f21.there
    have hm21 := hm20.but b21 ba mxa f21.there
    have hn21 := hn20.but b21 ca mxa f21.there
    have k191 := k20.trans k21
    have hq21 := hq19.keep k191
    have al21 := al19.keep k191
    have hrn21 := hrn19.keep k191
    -- once more
    obtain ⟨dx4, vS4, vT4, vE4, hp4, _⟩ := hm21.ex
    refine ⟨_, rfl, p, rfl, _, rfl, .inr ⟨_, _, hp4⟩, MX, p, ab, m, u, _, _, rfl, hm21, al21, hu, lu, sz, fun r4 H22 b22 nr4 hm22 hr4 => ?_⟩
    have k22 : Keep MX H21 H22 := Keep.but b22 mxb hm22.there
    have hn22 := hn21.but b22 bac mxb hm22.there
    have hq22 := hq21.keep k22
    have al22 := al21.keep k22
    have hrn22 := hrn21.keep k22
    refine ⟨_, rfl, _, _, _, _, rfl, at_rat hr4, at_pr hrn22, true, rfl, iteT ?_⟩
    obtain ⟨dx5, vS5, vT5, vE5, hp5, _⟩ := hn22.ex
    refine ⟨_, rfl, p2, dx5, _, rfl, hp5, mf_no (by decide +kernel) (by decide +kernel) (by decide +kernel) (by decide +kernel) (by decide +kernel), _, rfl, MX, p2, ac, m, u, _, _, rfl, hn22, al22, hu, lu, sz, fun r5 H23 b23 nr5 hn23 hr5 => ?_⟩
    have k23 : Keep MX H22 H23 := Keep.but b23 mxc hn23.there
    refine ⟨_, rfl, _, _, _, _, rfl, at_rat hr5, at_pr (hrn22.keep k23), true, rfl, iteT ?_⟩
    exact ⟨_, rfl, _, rfl, MX, p2, ac, q, m, rfl, hn23, hq22.keep k23, al22.keep k23, sn, fun H' _ => kend H'⟩
end
end RX

set_option Elab.async false
set_option maxRecDepth 100000
namespace RX
open PySem L2 L2H XH LX VA

set_option maxHeartbeats 0 in
theorem all_mk {l : PySem.W.OpenLaw} {w : World} {K : PySem.W.Frag} {h : Heap} {mg : Str → Option Value} {fa C CM fCb fTa fRa fTb fWp fWr fSf fSh fTh fAl fCw fTx fFe fDr fGr fPa fSu fBy fIs fSa fNm fLn fDo fRb fLw fWo fMk fDu fDn fLi fLs fRf fSo fHp fAo fBw fBs fTt fTs fPi fPd fL fI fWh fRx fMi fSi fFi fSt fRw fNu fCa fMr fMc fMt fMp qWh qSi TT : Addr} {rWh rSi : List Value} (X : K.In h) (G : h.Ns mainGlobals mg) (hfa : mg "law" = some (.ref fa)) (ht : l.prog.given.tree = none)
    {odCb odTa odRa odTb odWp odWr odSf odSh odTh odAl odCw odTx odFe odDr odGr odPa odSu odBy odIs odSa odNm odLn odDo odRb odLw odWo odMk odDu odDn odLi odLs odRf odSo odHp odAo odBw odBs odTt odTs odPi odPd odL odI odWh odRx odMi odSi odFi odSt odRw odNu odCa odMr odMc odMt odMp odT anCb anTa anRa anTb anWp anWr anSf anSh anTh anAl anCw anTx anFe anDr anGr anPa anSu anBy anIs anSa anNm anLn anDo anRb anLw anWo anMk anDu anDn anLi anLs anRf anSo anHp anAo anBw anBs anTt anTs anPi anPd anL anI anWh anRx anMi anSi anFi anSt anRw anNu anCa anMr anMc anMt anMp : Option Addr} {slCb slTa slRa slTb slWp slWr slSf slSh slTh slAl slCw slTx slFe slDr slGr slPa slSu slBy slIs slSa slNm slLn slDo slRb slLw slWo slMk slDu slDn slLi slLs slRf slSo slHp slAo slBw slBs slTt slTs slPi slPd slL slI slWh slRx slMi slSi slFi slSt slRw slNu slCa slMr slMc slMt slMp slT : Array (Option Value)} {ocCb kVCb dcCb pmCb cdCb ctCb ocTa kVTa dcTa pmTa cdTa ctTa ocRa kVRa dcRa pmRa cdRa ctRa ocTb kVTb dcTb pmTb cdTb ctTb ocWp kVWp dcWp pmWp cdWp ctWp ocWr kVWr dcWr pmWr cdWr ctWr ocSf kVSf dcSf pmSf cdSf ctSf ocSh kVSh dcSh pmSh cdSh ctSh ocTh kVTh dcTh pmTh cdTh ctTh ocAl kVAl dcAl pmAl cdAl ctAl ocCw kVCw dcCw pmCw cdCw ctCw ocTx kVTx dcTx pmTx cdTx ctTx ocFe kVFe dcFe pmFe cdFe ctFe ocDr kVDr dcDr pmDr cdDr ctDr ocGr kVGr dcGr pmGr cdGr ctGr ocPa kVPa dcPa pmPa cdPa ctPa ocSu kVSu dcSu pmSu cdSu ctSu ocBy kVBy dcBy pmBy cdBy ctBy ocIs kVIs dcIs pmIs cdIs ctIs ocSa kVSa dcSa pmSa cdSa ctSa ocNm kVNm dcNm pmNm cdNm ctNm ocLn kVLn dcLn pmLn cdLn ctLn ocDo kVDo dcDo pmDo cdDo ctDo ocRb kVRb dcRb pmRb cdRb ctRb ocLw kVLw dcLw pmLw cdLw ctLw ocWo kVWo dcWo pmWo cdWo ctWo ocMk kVMk dcMk pmMk cdMk ctMk ocDu kVDu dcDu pmDu cdDu ctDu ocDn kVDn dcDn pmDn cdDn ctDn ocLi kVLi dcLi pmLi cdLi ctLi ocLs kVLs dcLs pmLs cdLs ctLs ocRf kVRf dcRf pmRf cdRf ctRf ocSo kVSo dcSo pmSo cdSo ctSo ocHp kVHp dcHp pmHp cdHp ctHp ocAo kVAo dcAo pmAo cdAo ctAo ocBw kVBw dcBw pmBw cdBw ctBw ocBs kVBs dcBs pmBs cdBs ctBs ocTt kVTt dcTt pmTt cdTt ctTt ocTs kVTs dcTs pmTs cdTs ctTs ocPi kVPi dcPi pmPi cdPi ctPi ocPd kVPd dcPd pmPd cdPd ctPd ocL kVL dcL pmL cdL ctL ocI kVI dcI pmI cdI ctI ocWh kVWh dcWh pmWh cdWh ctWh ocRx kVRx dcRx pmRx cdRx ctRx ocMi kVMi dcMi pmMi cdMi ctMi ocSi kVSi dcSi pmSi cdSi ctSi ocFi kVFi dcFi pmFi cdFi ctFi ocSt kVSt dcSt pmSt cdSt ctSt ocRw kVRw dcRw pmRw cdRw ctRw ocNu kVNu dcNu pmNu cdNu ctNu ocCa kVCa dcCa pmCa cdCa ctCa ocMr kVMr dcMr pmMr cdMr ctMr ocMc kVMc dcMc pmMc cdMc ctMc ocMt kVMt dcMt pmMt cdMt ctMt ocMp kVMp dcMp pmMp cdMp ctMp ocT : Value} {tkT : Tok} {nT0 : Nat} {tkL tkS : Tok} {E0 E1 E2 E3 E4 E5 E6 E7 E8 E9 E10 fW TW : Addr} {ocW kVW dcW pmW cdW ctW ocU : Value} {odW anW odU : Option Addr} {slW slU : Array (Option Value)} {nU : Nat} {nm0 nm1 nm2 nm3 nm4 nm5 nm6 nm7 nm8 nm9 nm10 : Str} {q0 q1 q2 q3 q4 q5 q6 q7 q8 q9 q10 : Str} {N0 N1 N2 N3 N4 N5 N6 N7 N8 N9 N10 : Addr} {bs0 bs1 bs2 bs3 bs4 bs5 bs6 bs7 bs8 bs9 bs10 : List Value} {sn0 sn1 sn2 sn3 sn4 sn5 sn6 sn7 sn8 sn9 sn10 : List Str} {su0 su1 su2 su3 su4 su5 su6 su7 su8 su9 su10 : List Value} {ab0 ab1 ab2 ab3 ab4 ab5 ab6 ab7 ab8 ab9 ab10 : Bool} {co0 co1 co2 co3 co4 co5 co6 co7 co8 co9 co10 : Option Bool} {de0 de1 de2 de3 de4 de5 de6 de7 de8 de9 de10 : Option Addr} {ka0 ka1 ka2 ka3 ka4 ka5 ka6 ka7 ka8 ka9 ka10 : Option Value} {kb0 kb1 kb2 kb3 kb4 kb5 kb6 kb7 kb8 kb9 kb10 : Option Value} {kc0 kc1 kc2 kc3 kc4 kc5 kc6 kc7 kc8 kc9 kc10 : Option Value} {kd0 kd1 kd2 kd3 kd4 kd5 kd6 kd7 kd8 kd9 kd10 : Option Value} {ke0 ke1 ke2 ke3 ke4 ke5 ke6 ke7 ke8 ke9 ke10 : Option Value}
    (xSH : PySem.W.nsIn K mainGlobals "SHORT" = some (some (.int 2000 tkS)))
    (xGcd : PySem.W.nsIn K mainGlobals "gcd" = some (some (.builtin "math.gcd")))
    (xLcm : PySem.W.nsIn K mainGlobals "lcm" = some (some (.builtin "math.lcm")))
    (xLet : PySem.W.nsIn K mainGlobals "LETTERS" = some (some (.str "abcd" tkL)))
    (aE10 : PySem.W.nsIn K mainGlobals "WordError" = some (some (.ref E10)))
    (xE10 : K.lookup E10 = some (excClassObj nm10 q10 E10 N10 bs10 [.type "ValueError", .type "Exception", .type "BaseException", .type "object"] true sn10 su10 ab10 co10 de10 ka10 kb10 kc10 kd10 ke10 "ValueError.__new__"))
    (sE10 : PySem.W.findIn K (.ref E10) "__setattr__" = some (some (.builtin "object.__setattr__")))
    (kE10 : PySem.W.keepIn K (.ref E10) = true)
    (iE10 : PySem.W.findIn K (.ref E10) "__init__" = some (some (.ref fW)))
    (nE10 : PySem.W.findIn K (.ref E10) "what" = some none)
    (gE10 : PySem.W.findIn K (.ref E10) "__getattribute__" = some (some (.builtin "BaseException.__getattribute__")))
    (hE10 : PySem.W.findIn K (.ref E10) "__getattr__" = some none)
    (dE10 : PySem.W.hasDictIn K E10 = true)
    (cE10 : PySem.W.findIn K (.ref E10) "__class__" = some (some (.builtin "object.__class__")))
    (aE0 : PySem.W.nsIn K mainGlobals "BadNumber" = some (some (.ref E0)))
    (xE0 : K.lookup E0 = some (excClassObj nm0 q0 E0 N0 bs0 [.ref E10, .type "ValueError", .type "Exception", .type "BaseException", .type "object"] true sn0 su0 ab0 co0 de0 ka0 kb0 kc0 kd0 ke0 "ValueError.__new__"))
    (sE0 : PySem.W.findIn K (.ref E0) "__setattr__" = some (some (.builtin "object.__setattr__")))
    (kE0 : PySem.W.keepIn K (.ref E0) = true)
    (iE0 : PySem.W.findIn K (.ref E0) "__init__" = some (some (.ref fW)))
    (nE0 : PySem.W.findIn K (.ref E0) "what" = some none)
    (gE0 : PySem.W.findIn K (.ref E0) "__getattribute__" = some (some (.builtin "BaseException.__getattribute__")))
    (hE0 : PySem.W.findIn K (.ref E0) "__getattr__" = some none)
    (dE0 : PySem.W.hasDictIn K E0 = true)
    (cE0 : PySem.W.findIn K (.ref E0) "__class__" = some (some (.builtin "object.__class__")))
    (aE1 : PySem.W.nsIn K mainGlobals "BadMachine" = some (some (.ref E1)))
    (xE1 : K.lookup E1 = some (excClassObj nm1 q1 E1 N1 bs1 [.ref E10, .type "ValueError", .type "Exception", .type "BaseException", .type "object"] true sn1 su1 ab1 co1 de1 ka1 kb1 kc1 kd1 ke1 "ValueError.__new__"))
    (sE1 : PySem.W.findIn K (.ref E1) "__setattr__" = some (some (.builtin "object.__setattr__")))
    (kE1 : PySem.W.keepIn K (.ref E1) = true)
    (iE1 : PySem.W.findIn K (.ref E1) "__init__" = some (some (.ref fW)))
    (nE1 : PySem.W.findIn K (.ref E1) "what" = some none)
    (gE1 : PySem.W.findIn K (.ref E1) "__getattribute__" = some (some (.builtin "BaseException.__getattribute__")))
    (hE1 : PySem.W.findIn K (.ref E1) "__getattr__" = some none)
    (dE1 : PySem.W.hasDictIn K E1 = true)
    (cE1 : PySem.W.findIn K (.ref E1) "__class__" = some (some (.builtin "object.__class__")))
    (aE2 : PySem.W.nsIn K mainGlobals "BadWord" = some (some (.ref E2)))
    (xE2 : K.lookup E2 = some (excClassObj nm2 q2 E2 N2 bs2 [.ref E10, .type "ValueError", .type "Exception", .type "BaseException", .type "object"] true sn2 su2 ab2 co2 de2 ka2 kb2 kc2 kd2 ke2 "ValueError.__new__"))
    (sE2 : PySem.W.findIn K (.ref E2) "__setattr__" = some (some (.builtin "object.__setattr__")))
    (kE2 : PySem.W.keepIn K (.ref E2) = true)
    (iE2 : PySem.W.findIn K (.ref E2) "__init__" = some (some (.ref fW)))
    (nE2 : PySem.W.findIn K (.ref E2) "what" = some none)
    (gE2 : PySem.W.findIn K (.ref E2) "__getattribute__" = some (some (.builtin "BaseException.__getattribute__")))
    (hE2 : PySem.W.findIn K (.ref E2) "__getattr__" = some none)
    (dE2 : PySem.W.hasDictIn K E2 = true)
    (cE2 : PySem.W.findIn K (.ref E2) "__class__" = some (some (.builtin "object.__class__")))
    (aE3 : PySem.W.nsIn K mainGlobals "BadStar" = some (some (.ref E3)))
    (xE3 : K.lookup E3 = some (excClassObj nm3 q3 E3 N3 bs3 [.ref E10, .type "ValueError", .type "Exception", .type "BaseException", .type "object"] true sn3 su3 ab3 co3 de3 ka3 kb3 kc3 kd3 ke3 "ValueError.__new__"))
    (sE3 : PySem.W.findIn K (.ref E3) "__setattr__" = some (some (.builtin "object.__setattr__")))
    (kE3 : PySem.W.keepIn K (.ref E3) = true)
    (iE3 : PySem.W.findIn K (.ref E3) "__init__" = some (some (.ref fW)))
    (nE3 : PySem.W.findIn K (.ref E3) "what" = some none)
    (gE3 : PySem.W.findIn K (.ref E3) "__getattribute__" = some (some (.builtin "BaseException.__getattribute__")))
    (hE3 : PySem.W.findIn K (.ref E3) "__getattr__" = some none)
    (dE3 : PySem.W.hasDictIn K E3 = true)
    (cE3 : PySem.W.findIn K (.ref E3) "__class__" = some (some (.builtin "object.__class__")))
    (aE4 : PySem.W.nsIn K mainGlobals "BadText" = some (some (.ref E4)))
    (xE4 : K.lookup E4 = some (excClassObj nm4 q4 E4 N4 bs4 [.ref E10, .type "ValueError", .type "Exception", .type "BaseException", .type "object"] true sn4 su4 ab4 co4 de4 ka4 kb4 kc4 kd4 ke4 "ValueError.__new__"))
    (sE4 : PySem.W.findIn K (.ref E4) "__setattr__" = some (some (.builtin "object.__setattr__")))
    (kE4 : PySem.W.keepIn K (.ref E4) = true)
    (iE4 : PySem.W.findIn K (.ref E4) "__init__" = some (some (.ref fW)))
    (nE4 : PySem.W.findIn K (.ref E4) "what" = some none)
    (gE4 : PySem.W.findIn K (.ref E4) "__getattribute__" = some (some (.builtin "BaseException.__getattribute__")))
    (hE4 : PySem.W.findIn K (.ref E4) "__getattr__" = some none)
    (dE4 : PySem.W.hasDictIn K E4 = true)
    (cE4 : PySem.W.findIn K (.ref E4) "__class__" = some (some (.builtin "object.__class__")))
    (aE5 : PySem.W.nsIn K mainGlobals "BadPaper" = some (some (.ref E5)))
    (xE5 : K.lookup E5 = some (excClassObj nm5 q5 E5 N5 bs5 [.ref E10, .type "ValueError", .type "Exception", .type "BaseException", .type "object"] true sn5 su5 ab5 co5 de5 ka5 kb5 kc5 kd5 ke5 "ValueError.__new__"))
    (sE5 : PySem.W.findIn K (.ref E5) "__setattr__" = some (some (.builtin "object.__setattr__")))
    (kE5 : PySem.W.keepIn K (.ref E5) = true)
    (iE5 : PySem.W.findIn K (.ref E5) "__init__" = some (some (.ref fW)))
    (nE5 : PySem.W.findIn K (.ref E5) "what" = some none)
    (gE5 : PySem.W.findIn K (.ref E5) "__getattribute__" = some (some (.builtin "BaseException.__getattribute__")))
    (hE5 : PySem.W.findIn K (.ref E5) "__getattr__" = some none)
    (dE5 : PySem.W.hasDictIn K E5 = true)
    (cE5 : PySem.W.findIn K (.ref E5) "__class__" = some (some (.builtin "object.__class__")))
    (aE6 : PySem.W.nsIn K mainGlobals "BadDeed" = some (some (.ref E6)))
    (xE6 : K.lookup E6 = some (excClassObj nm6 q6 E6 N6 bs6 [.ref E10, .type "ValueError", .type "Exception", .type "BaseException", .type "object"] true sn6 su6 ab6 co6 de6 ka6 kb6 kc6 kd6 ke6 "ValueError.__new__"))
    (sE6 : PySem.W.findIn K (.ref E6) "__setattr__" = some (some (.builtin "object.__setattr__")))
    (kE6 : PySem.W.keepIn K (.ref E6) = true)
    (iE6 : PySem.W.findIn K (.ref E6) "__init__" = some (some (.ref fW)))
    (nE6 : PySem.W.findIn K (.ref E6) "what" = some none)
    (gE6 : PySem.W.findIn K (.ref E6) "__getattribute__" = some (some (.builtin "BaseException.__getattribute__")))
    (hE6 : PySem.W.findIn K (.ref E6) "__getattr__" = some none)
    (dE6 : PySem.W.hasDictIn K E6 = true)
    (cE6 : PySem.W.findIn K (.ref E6) "__class__" = some (some (.builtin "object.__class__")))
    (aE7 : PySem.W.nsIn K mainGlobals "TooMany" = some (some (.ref E7)))
    (xE7 : K.lookup E7 = some (excClassObj nm7 q7 E7 N7 bs7 [.ref E10, .type "ValueError", .type "Exception", .type "BaseException", .type "object"] true sn7 su7 ab7 co7 de7 ka7 kb7 kc7 kd7 ke7 "ValueError.__new__"))
    (sE7 : PySem.W.findIn K (.ref E7) "__setattr__" = some (some (.builtin "object.__setattr__")))
    (kE7 : PySem.W.keepIn K (.ref E7) = true)
    (iE7 : PySem.W.findIn K (.ref E7) "__init__" = some (some (.ref fW)))
    (nE7 : PySem.W.findIn K (.ref E7) "what" = some none)
    (gE7 : PySem.W.findIn K (.ref E7) "__getattribute__" = some (some (.builtin "BaseException.__getattribute__")))
    (hE7 : PySem.W.findIn K (.ref E7) "__getattr__" = some none)
    (dE7 : PySem.W.hasDictIn K E7 = true)
    (cE7 : PySem.W.findIn K (.ref E7) "__class__" = some (some (.builtin "object.__class__")))
    (aE8 : PySem.W.nsIn K mainGlobals "Unknown" = some (some (.ref E8)))
    (xE8 : K.lookup E8 = some (excClassObj nm8 q8 E8 N8 bs8 [.ref E10, .type "ValueError", .type "Exception", .type "BaseException", .type "object"] true sn8 su8 ab8 co8 de8 ka8 kb8 kc8 kd8 ke8 "ValueError.__new__"))
    (sE8 : PySem.W.findIn K (.ref E8) "__setattr__" = some (some (.builtin "object.__setattr__")))
    (kE8 : PySem.W.keepIn K (.ref E8) = true)
    (iE8 : PySem.W.findIn K (.ref E8) "__init__" = some (some (.ref fW)))
    (nE8 : PySem.W.findIn K (.ref E8) "what" = some none)
    (gE8 : PySem.W.findIn K (.ref E8) "__getattribute__" = some (some (.builtin "BaseException.__getattribute__")))
    (hE8 : PySem.W.findIn K (.ref E8) "__getattr__" = some none)
    (dE8 : PySem.W.hasDictIn K E8 = true)
    (cE8 : PySem.W.findIn K (.ref E8) "__class__" = some (some (.builtin "object.__class__")))
    (aE9 : PySem.W.nsIn K mainGlobals "Taken" = some (some (.ref E9)))
    (xE9 : K.lookup E9 = some (excClassObj nm9 q9 E9 N9 bs9 [.ref E10, .type "ValueError", .type "Exception", .type "BaseException", .type "object"] true sn9 su9 ab9 co9 de9 ka9 kb9 kc9 kd9 ke9 "ValueError.__new__"))
    (sE9 : PySem.W.findIn K (.ref E9) "__setattr__" = some (some (.builtin "object.__setattr__")))
    (kE9 : PySem.W.keepIn K (.ref E9) = true)
    (iE9 : PySem.W.findIn K (.ref E9) "__init__" = some (some (.ref fW)))
    (nE9 : PySem.W.findIn K (.ref E9) "what" = some none)
    (gE9 : PySem.W.findIn K (.ref E9) "__getattribute__" = some (some (.builtin "BaseException.__getattribute__")))
    (hE9 : PySem.W.findIn K (.ref E9) "__getattr__" = some none)
    (dE9 : PySem.W.hasDictIn K E9 = true)
    (cE9 : PySem.W.findIn K (.ref E9) "__class__" = some (some (.builtin "object.__class__")))
    (tW : PySem.W.typeIn K (.ref fW) = some (.type "function"))
    (lW : K.lookup fW = some ⟨ocW, odW, .func (PySem.W.fnOf "__init__" "WordError.__init__" (defArgs sWi) (defBody sWi) (defScope sWi) (.ref TW) kVW dcW pmW anW cdW ctW), slW⟩)
    (cW : PySem.W.codeIn K cdW "WordError.__init__" = true)
    (kW : PySem.W.keepIn K (.ref fW) = true)
    (lTW : K.lookup TW = some ⟨ocU, odU, .seq #[.none] nU, slU⟩)
    (nd : ([E0, E1, E2, E3, E4, E5, E6, E7, E8, E9, E10] : List Addr).Nodup)
    (aC : PySem.W.nsIn K mainGlobals "Ratio" = some (some (.ref C)))
    (pgC : PySem.W.plainGet K C Str.empty = true)
    (hdC : PySem.W.hasDictIn K C = true)
    (poC : PySem.W.plainOver K C = true)
    (saC : PySem.W.findIn K (.ref C) "__setattr__" = some (some (.builtin "object.__setattr__")))
    (nCtop : PySem.W.findIn K (.ref C) "top" = some none)
    (nCbottom : PySem.W.findIn K (.ref C) "bottom" = some none)
    (mkC : PySem.W.makesIn K C = true)
    (kcC : PySem.W.keepIn K (.ref C) = true)
    (xaC : PySem.W.findIn K (.ref C) "__class__" = some (some (.builtin "object.__class__")))
    (xmC : PySem.W.mroIn K C (.type "object") = some true)
    (aI : PySem.W.findIn K (.ref C) "__init__" = some (some (.ref fI)))
    (iI : PySem.W.isFn K (.ref fI) = true)
    (lI : K.lookup fI = some ⟨ocI, odI, .func (PySem.W.fnOf "__init__" "Ratio.__init__" (defArgs sInit) (defBody sInit) (defScope sInit) (.ref TT) kVI dcI pmI anI cdI ctI), slI⟩)
    (cI : PySem.W.codeIn K cdI "Ratio.__init__" = true)
    (kI : PySem.W.keepIn K (.ref fI) = true)
    (lT : K.lookup TT = some ⟨ocT, odT, .seq #[.int 1 tkT] nT0, slT⟩)
    (aWh : PySem.W.findIn K (.ref C) "is_whole" = some (some (.ref qWh)))
    (g1Wh : PySem.W.specialIn K (.ref qWh) "__get__" = some (some (.builtin "property.__get__")))
    (g2Wh : PySem.W.takesIn K (.ref qWh) = some true)
    (g3Wh : PySem.W.recIn K qWh "property" = some (.ref fWh :: rWh))
    (lWh : K.lookup fWh = some ⟨ocWh, odWh, .func (PySem.W.fnOf "is_whole" "Ratio.is_whole" (defArgs sWhole) (defBody sWhole) (defScope sWhole) .none kVWh dcWh pmWh anWh cdWh ctWh), slWh⟩)
    (cWh : PySem.W.codeIn K cdWh "Ratio.is_whole" = true)
    (kWh : PySem.W.keepIn K (.ref fWh) = true)
    (aRx : PySem.W.findIn K (.ref C) "text" = some (some (.ref fRx)))
    (iRx : PySem.W.isFn K (.ref fRx) = true)
    (lRx : K.lookup fRx = some ⟨ocRx, odRx, .func (PySem.W.fnOf "text" "Ratio.text" (defArgs sRText) (defBody sRText) (defScope sRText) .none kVRx dcRx pmRx anRx cdRx ctRx), slRx⟩)
    (cRx : PySem.W.codeIn K cdRx "Ratio.text" = true)
    (kRx : PySem.W.keepIn K (.ref fRx) = true)
    (aCM : PySem.W.nsIn K mainGlobals "Machine" = some (some (.ref CM)))
    (pgCM : PySem.W.plainGet K CM Str.empty = true)
    (hdCM : PySem.W.hasDictIn K CM = true)
    (poCM : PySem.W.plainOver K CM = true)
    (saCM : PySem.W.findIn K (.ref CM) "__setattr__" = some (some (.builtin "object.__setattr__")))
    (nCMletters : PySem.W.findIn K (.ref CM) "letters" = some none)
    (nCMstart : PySem.W.findIn K (.ref CM) "start" = some none)
    (nCMsteps : PySem.W.findIn K (.ref CM) "steps" = some none)
    (nCMend : PySem.W.findIn K (.ref CM) "end" = some none)
    (nCM_above : PySem.W.findIn K (.ref CM) "_above" = some none)
    (mkCM : PySem.W.makesIn K CM = true)
    (kcCM : PySem.W.keepIn K (.ref CM) = true)
    (aMi : PySem.W.findIn K (.ref CM) "__init__" = some (some (.ref fMi)))
    (iMi : PySem.W.isFn K (.ref fMi) = true)
    (lMi : K.lookup fMi = some ⟨ocMi, odMi, .func (PySem.W.fnOf "__init__" "Machine.__init__" (defArgs sMi) (defBody sMi) (defScope sMi) .none kVMi dcMi pmMi anMi cdMi ctMi), slMi⟩)
    (cMi : PySem.W.codeIn K cdMi "Machine.__init__" = true)
    (kMi : PySem.W.keepIn K (.ref fMi) = true)
    (aSi : PySem.W.findIn K (.ref CM) "size" = some (some (.ref qSi)))
    (g1Si : PySem.W.specialIn K (.ref qSi) "__get__" = some (some (.builtin "property.__get__")))
    (g2Si : PySem.W.takesIn K (.ref qSi) = some true)
    (g3Si : PySem.W.recIn K qSi "property" = some (.ref fSi :: rSi))
    (lSi : K.lookup fSi = some ⟨ocSi, odSi, .func (PySem.W.fnOf "size" "Machine.size" (defArgs sSi) (defBody sSi) (defScope sSi) .none kVSi dcSi pmSi anSi cdSi ctSi), slSi⟩)
    (cSi : PySem.W.codeIn K cdSi "Machine.size" = true)
    (kSi : PySem.W.keepIn K (.ref fSi) = true)
    (aFi : PySem.W.findIn K (.ref CM) "_fits" = some (some (.ref fFi)))
    (iFi : PySem.W.isFn K (.ref fFi) = true)
    (lFi : K.lookup fFi = some ⟨ocFi, odFi, .func (PySem.W.fnOf "_fits" "Machine._fits" (defArgs sFit) (defBody sFit) (defScope sFit) .none kVFi dcFi pmFi anFi cdFi ctFi), slFi⟩)
    (cFi : PySem.W.codeIn K cdFi "Machine._fits" = true)
    (kFi : PySem.W.keepIn K (.ref fFi) = true)
    (aSt : PySem.W.findIn K (.ref CM) "_step_above" = some (some (.ref fSt)))
    (iSt : PySem.W.isFn K (.ref fSt) = true)
    (lSt : K.lookup fSt = some ⟨ocSt, odSt, .func (PySem.W.fnOf "_step_above" "Machine._step_above" (defArgs sSta) (defBody sSta) (defScope sSta) .none kVSt dcSt pmSt anSt cdSt ctSt), slSt⟩)
    (cSt : PySem.W.codeIn K cdSt "Machine._step_above" = true)
    (kSt : PySem.W.keepIn K (.ref fSt) = true)
    (aRw : PySem.W.findIn K (.ref CM) "_row_above" = some (some (.ref fRw)))
    (iRw : PySem.W.isFn K (.ref fRw) = true)
    (lRw : K.lookup fRw = some ⟨ocRw, odRw, .func (PySem.W.fnOf "_row_above" "Machine._row_above" (defArgs sRwa) (defBody sRwa) (defScope sRwa) .none kVRw dcRw pmRw anRw cdRw ctRw), slRw⟩)
    (cRw : PySem.W.codeIn K cdRw "Machine._row_above" = true)
    (kRw : PySem.W.keepIn K (.ref fRw) = true)
    (aNu : PySem.W.findIn K (.ref CM) "number" = some (some (.ref fNu)))
    (iNu : PySem.W.isFn K (.ref fNu) = true)
    (lNu : K.lookup fNu = some ⟨ocNu, odNu, .func (PySem.W.fnOf "number" "Machine.number" (defArgs sNum) (defBody sNum) (defScope sNum) .none kVNu dcNu pmNu anNu cdNu ctNu), slNu⟩)
    (cNu : PySem.W.codeIn K cdNu "Machine.number" = true)
    (kNu : PySem.W.keepIn K (.ref fNu) = true)
    (aCa : PySem.W.findIn K (.ref CM) "__call__" = some (some (.ref fCa)))
    (iCa : PySem.W.isFn K (.ref fCa) = true)
    (fiCa : PySem.W.fnIn K fCa = true)
    (lCa : K.lookup fCa = some ⟨ocCa, odCa, .func (PySem.W.fnOf "__call__" "Machine.__call__" (defArgs sCall) (defBody sCall) (defScope sCall) .none kVCa dcCa pmCa anCa cdCa ctCa), slCa⟩)
    (cCa : PySem.W.codeIn K cdCa "Machine.__call__" = true)
    (kCa : PySem.W.keepIn K (.ref fCa) = true)
    (aMr : PySem.W.findIn K (.ref CM) "row" = some (some (.ref fMr)))
    (iMr : PySem.W.isFn K (.ref fMr) = true)
    (lMr : K.lookup fMr = some ⟨ocMr, odMr, .func (PySem.W.fnOf "row" "Machine.row" (defArgs sRow) (defBody sRow) (defScope sRow) .none kVMr dcMr pmMr anMr cdMr ctMr), slMr⟩)
    (cMr : PySem.W.codeIn K cdMr "Machine.row" = true)
    (kMr : PySem.W.keepIn K (.ref fMr) = true)
    (aMc : PySem.W.findIn K (.ref CM) "column" = some (some (.ref fMc)))
    (iMc : PySem.W.isFn K (.ref fMc) = true)
    (lMc : K.lookup fMc = some ⟨ocMc, odMc, .func (PySem.W.fnOf "column" "Machine.column" (defArgs sCol) (defBody sCol) (defScope sCol) .none kVMc dcMc pmMc anMc cdMc ctMc), slMc⟩)
    (cMc : PySem.W.codeIn K cdMc "Machine.column" = true)
    (kMc : PySem.W.keepIn K (.ref fMc) = true)
    (aMt : PySem.W.findIn K (.ref CM) "table" = some (some (.ref fMt)))
    (iMt : PySem.W.isFn K (.ref fMt) = true)
    (lMt : K.lookup fMt = some ⟨ocMt, odMt, .func (PySem.W.fnOf "table" "Machine.table" (defArgs sTab) (defBody sTab) (defScope sTab) .none kVMt dcMt pmMt anMt cdMt ctMt), slMt⟩)
    (cMt : PySem.W.codeIn K cdMt "Machine.table" = true)
    (kMt : PySem.W.keepIn K (.ref fMt) = true)
    (aMp : PySem.W.findIn K (.ref CM) "picture" = some (some (.ref fMp)))
    (iMp : PySem.W.isFn K (.ref fMp) = true)
    (lMp : K.lookup fMp = some ⟨ocMp, odMp, .func (PySem.W.fnOf "picture" "Machine.picture" (defArgs sMPic) (defBody sMPic) (defScope sMPic) .none kVMp dcMp pmMp anMp cdMp ctMp), slMp⟩)
    (cMp : PySem.W.codeIn K cdMp "Machine.picture" = true)
    (kMp : PySem.W.keepIn K (.ref fMp) = true)
    (xn : PySem.W.specialIn K (.builtin "object.__class__") "__get__" = some (some (.builtin "getset_descriptor.__get__")))
    (xt : PySem.W.takesIn K (.builtin "object.__class__") = some true)
    (aCb : PySem.W.nsIn K mainGlobals "common_bottom" = some (some (.ref fCb)))
    (lCb : K.lookup fCb = some ⟨ocCb, odCb, .func (PySem.W.fnOf "common_bottom" "common_bottom" (defArgs sCbm) (defBody sCbm) (defScope sCbm) .none kVCb dcCb pmCb anCb cdCb ctCb), slCb⟩)
    (cCb : PySem.W.codeIn K cdCb "common_bottom" = true)
    (kCb : PySem.W.keepIn K (.ref fCb) = true)
    (aTa : PySem.W.nsIn K mainGlobals "tops_above" = some (some (.ref fTa)))
    (lTa : K.lookup fTa = some ⟨ocTa, odTa, .func (PySem.W.fnOf "tops_above" "tops_above" (defArgs sTa) (defBody sTa) (defScope sTa) .none kVTa dcTa pmTa anTa cdTa ctTa), slTa⟩)
    (cTa : PySem.W.codeIn K cdTa "tops_above" = true)
    (kTa : PySem.W.keepIn K (.ref fTa) = true)
    (aRa : PySem.W.nsIn K mainGlobals "row_above" = some (some (.ref fRa)))
    (lRa : K.lookup fRa = some ⟨ocRa, odRa, .func (PySem.W.fnOf "row_above" "row_above" (defArgs sRa) (defBody sRa) (defScope sRa) .none kVRa dcRa pmRa anRa cdRa ctRa), slRa⟩)
    (cRa : PySem.W.codeIn K cdRa "row_above" = true)
    (kRa : PySem.W.keepIn K (.ref fRa) = true)
    (aTb : PySem.W.nsIn K mainGlobals "table_above" = some (some (.ref fTb)))
    (lTb : K.lookup fTb = some ⟨ocTb, odTb, .func (PySem.W.fnOf "table_above" "table_above" (defArgs sTb) (defBody sTb) (defScope sTb) .none kVTb dcTb pmTb anTb cdTb ctTb), slTb⟩)
    (cTb : PySem.W.codeIn K cdTb "table_above" = true)
    (kTb : PySem.W.keepIn K (.ref fTb) = true)
    (aWp : PySem.W.nsIn K mainGlobals "whole_product" = some (some (.ref fWp)))
    (lWp : K.lookup fWp = some ⟨ocWp, odWp, .func (PySem.W.fnOf "whole_product" "whole_product" (defArgs sWp) (defBody sWp) (defScope sWp) .none kVWp dcWp pmWp anWp cdWp ctWp), slWp⟩)
    (cWp : PySem.W.codeIn K cdWp "whole_product" = true)
    (kWp : PySem.W.keepIn K (.ref fWp) = true)
    (aWr : PySem.W.nsIn K mainGlobals "whole_row_times" = some (some (.ref fWr)))
    (lWr : K.lookup fWr = some ⟨ocWr, odWr, .func (PySem.W.fnOf "whole_row_times" "whole_row_times" (defArgs sWr) (defBody sWr) (defScope sWr) .none kVWr dcWr pmWr anWr cdWr ctWr), slWr⟩)
    (cWr : PySem.W.codeIn K cdWr "whole_row_times" = true)
    (kWr : PySem.W.keepIn K (.ref fWr) = true)
    (aSf : PySem.W.nsIn K mainGlobals "shared_factor" = some (some (.ref fSf)))
    (lSf : K.lookup fSf = some ⟨ocSf, odSf, .func (PySem.W.fnOf "shared_factor" "shared_factor" (defArgs sShf) (defBody sShf) (defScope sShf) .none kVSf dcSf pmSf anSf cdSf ctSf), slSf⟩)
    (cSf : PySem.W.codeIn K cdSf "shared_factor" = true)
    (kSf : PySem.W.keepIn K (.ref fSf) = true)
    (aSh : PySem.W.nsIn K mainGlobals "shortened" = some (some (.ref fSh)))
    (lSh : K.lookup fSh = some ⟨ocSh, odSh, .func (PySem.W.fnOf "shortened" "shortened" (defArgs sShd) (defBody sShd) (defScope sShd) .none kVSh dcSh pmSh anSh cdSh ctSh), slSh⟩)
    (cSh : PySem.W.codeIn K cdSh "shortened" = true)
    (kSh : PySem.W.keepIn K (.ref fSh) = true)
    (aTh : PySem.W.nsIn K mainGlobals "row_through" = some (some (.ref fTh)))
    (lTh : K.lookup fTh = some ⟨ocTh, odTh, .func (PySem.W.fnOf "row_through" "row_through" (defArgs sRth) (defBody sRth) (defScope sRth) .none kVTh dcTh pmTh anTh cdTh ctTh), slTh⟩)
    (cTh : PySem.W.codeIn K cdTh "row_through" = true)
    (kTh : PySem.W.keepIn K (.ref fTh) = true)
    (aAl : PySem.W.nsIn K mainGlobals "alphabet" = some (some (.ref fAl)))
    (lAl : K.lookup fAl = some ⟨ocAl, odAl, .func (PySem.W.fnOf "alphabet" "alphabet" (defArgs sAlpha) (defBody sAlpha) (defScope sAlpha) .none kVAl dcAl pmAl anAl cdAl ctAl), slAl⟩)
    (cAl : PySem.W.codeIn K cdAl "alphabet" = true)
    (kAl : PySem.W.keepIn K (.ref fAl) = true)
    (aCw : PySem.W.nsIn K mainGlobals "check_word" = some (some (.ref fCw)))
    (lCw : K.lookup fCw = some ⟨ocCw, odCw, .func (PySem.W.fnOf "check_word" "check_word" (defArgs sCw) (defBody sCw) (defScope sCw) .none kVCw dcCw pmCw anCw cdCw ctCw), slCw⟩)
    (cCw : PySem.W.codeIn K cdCw "check_word" = true)
    (kCw : PySem.W.keepIn K (.ref fCw) = true)
    (aTx : PySem.W.nsIn K mainGlobals "_texts" = some (some (.ref fTx)))
    (lTx : K.lookup fTx = some ⟨ocTx, odTx, .func (PySem.W.fnOf "_texts" "_texts" (defArgs sTexts) (defBody sTexts) (defScope sTexts) .none kVTx dcTx pmTx anTx cdTx ctTx), slTx⟩)
    (cTx : PySem.W.codeIn K cdTx "_texts" = true)
    (kTx : PySem.W.keepIn K (.ref fTx) = true)
    (aFe : PySem.W.nsIn K mainGlobals "_law_feed" = some (some (.ref fFe)))
    (lFe : K.lookup fFe = some ⟨ocFe, odFe, .func (PySem.W.fnOf "_law_feed" "_law_feed" (defArgs sFeed) (defBody sFeed) (defScope sFeed) .none kVFe dcFe pmFe anFe cdFe ctFe), slFe⟩)
    (cFe : PySem.W.codeIn K cdFe "_law_feed" = true)
    (kFe : PySem.W.keepIn K (.ref fFe) = true)
    (aDr : PySem.W.nsIn K mainGlobals "_law_draw" = some (some (.ref fDr)))
    (lDr : K.lookup fDr = some ⟨ocDr, odDr, .func (PySem.W.fnOf "_law_draw" "_law_draw" (defArgs sDraw) (defBody sDraw) (defScope sDraw) .none kVDr dcDr pmDr anDr cdDr ctDr), slDr⟩)
    (cDr : PySem.W.codeIn K cdDr "_law_draw" = true)
    (kDr : PySem.W.keepIn K (.ref fDr) = true)
    (aGr : PySem.W.nsIn K mainGlobals "_law_great" = some (some (.ref fGr)))
    (lGr : K.lookup fGr = some ⟨ocGr, odGr, .func (PySem.W.fnOf "_law_great" "_law_great" (defArgs sGreat) (defBody sGreat) (defScope sGreat) .none kVGr dcGr pmGr anGr cdGr ctGr), slGr⟩)
    (cGr : PySem.W.codeIn K cdGr "_law_great" = true)
    (kGr : PySem.W.keepIn K (.ref fGr) = true)
    (aPa : PySem.W.nsIn K mainGlobals "_law_pair" = some (some (.ref fPa)))
    (lPa : K.lookup fPa = some ⟨ocPa, odPa, .func (PySem.W.fnOf "_law_pair" "_law_pair" (defArgs sPair) (defBody sPair) (defScope sPair) .none kVPa dcPa pmPa anPa cdPa ctPa), slPa⟩)
    (cPa : PySem.W.codeIn K cdPa "_law_pair" = true)
    (kPa : PySem.W.keepIn K (.ref fPa) = true)
    (aSu : PySem.W.nsIn K mainGlobals "_law_sum" = some (some (.ref fSu)))
    (lSu : K.lookup fSu = some ⟨ocSu, odSu, .func (PySem.W.fnOf "_law_sum" "_law_sum" (defArgs sSum) (defBody sSum) (defScope sSum) .none kVSu dcSu pmSu anSu cdSu ctSu), slSu⟩)
    (cSu : PySem.W.codeIn K cdSu "_law_sum" = true)
    (kSu : PySem.W.keepIn K (.ref fSu) = true)
    (aBy : PySem.W.nsIn K mainGlobals "_law_by" = some (some (.ref fBy)))
    (lBy : K.lookup fBy = some ⟨ocBy, odBy, .func (PySem.W.fnOf "_law_by" "_law_by" (defArgs sBy) (defBody sBy) (defScope sBy) .none kVBy dcBy pmBy anBy cdBy ctBy), slBy⟩)
    (cBy : PySem.W.codeIn K cdBy "_law_by" = true)
    (kBy : PySem.W.keepIn K (.ref fBy) = true)
    (aIs : PySem.W.nsIn K mainGlobals "_law_is_integer" = some (some (.ref fIs)))
    (lIs : K.lookup fIs = some ⟨ocIs, odIs, .func (PySem.W.fnOf "_law_is_integer" "_law_is_integer" (defArgs sIsInt) (defBody sIsInt) (defScope sIsInt) .none kVIs dcIs pmIs anIs cdIs ctIs), slIs⟩)
    (cIs : PySem.W.codeIn K cdIs "_law_is_integer" = true)
    (kIs : PySem.W.keepIn K (.ref fIs) = true)
    (aSa : PySem.W.nsIn K mainGlobals "_law_same" = some (some (.ref fSa)))
    (lSa : K.lookup fSa = some ⟨ocSa, odSa, .func (PySem.W.fnOf "_law_same" "_law_same" (defArgs sSame) (defBody sSame) (defScope sSame) .none kVSa dcSa pmSa anSa cdSa ctSa), slSa⟩)
    (cSa : PySem.W.codeIn K cdSa "_law_same" = true)
    (kSa : PySem.W.keepIn K (.ref fSa) = true)
    (aNm : PySem.W.nsIn K mainGlobals "_law_number" = some (some (.ref fNm)))
    (lNm : K.lookup fNm = some ⟨ocNm, odNm, .func (PySem.W.fnOf "_law_number" "_law_number" (defArgs sNumber) (defBody sNumber) (defScope sNumber) .none kVNm dcNm pmNm anNm cdNm ctNm), slNm⟩)
    (cNm : PySem.W.codeIn K cdNm "_law_number" = true)
    (kNm : PySem.W.keepIn K (.ref fNm) = true)
    (aLn : PySem.W.nsIn K mainGlobals "_law_line" = some (some (.ref fLn)))
    (lLn : K.lookup fLn = some ⟨ocLn, odLn, .func (PySem.W.fnOf "_law_line" "_law_line" (defArgs sLine) (defBody sLine) (defScope sLine) .none kVLn dcLn pmLn anLn cdLn ctLn), slLn⟩)
    (cLn : PySem.W.codeIn K cdLn "_law_line" = true)
    (kLn : PySem.W.keepIn K (.ref fLn) = true)
    (aDo : PySem.W.nsIn K mainGlobals "_law_dot" = some (some (.ref fDo)))
    (lDo : K.lookup fDo = some ⟨ocDo, odDo, .func (PySem.W.fnOf "_law_dot" "_law_dot" (defArgs sDot) (defBody sDot) (defScope sDot) .none kVDo dcDo pmDo anDo cdDo ctDo), slDo⟩)
    (cDo : PySem.W.codeIn K cdDo "_law_dot" = true)
    (kDo : PySem.W.keepIn K (.ref fDo) = true)
    (aRb : PySem.W.nsIn K mainGlobals "_law_row_by" = some (some (.ref fRb)))
    (lRb : K.lookup fRb = some ⟨ocRb, odRb, .func (PySem.W.fnOf "_law_row_by" "_law_row_by" (defArgs sRowBy) (defBody sRowBy) (defScope sRowBy) .none kVRb dcRb pmRb anRb cdRb ctRb), slRb⟩)
    (cRb : PySem.W.codeIn K cdRb "_law_row_by" = true)
    (kRb : PySem.W.keepIn K (.ref fRb) = true)
    (aLw : PySem.W.nsIn K mainGlobals "_law_row" = some (some (.ref fLw)))
    (lLw : K.lookup fLw = some ⟨ocLw, odLw, .func (PySem.W.fnOf "_law_row" "_law_row" (defArgs sLRow) (defBody sLRow) (defScope sLRow) .none kVLw dcLw pmLw anLw cdLw ctLw), slLw⟩)
    (cLw : PySem.W.codeIn K cdLw "_law_row" = true)
    (kLw : PySem.W.keepIn K (.ref fLw) = true)
    (aWo : PySem.W.nsIn K mainGlobals "_law_word" = some (some (.ref fWo)))
    (lWo : K.lookup fWo = some ⟨ocWo, odWo, .func (PySem.W.fnOf "_law_word" "_law_word" (defArgs sWord) (defBody sWord) (defScope sWord) .none kVWo dcWo pmWo anWo cdWo ctWo), slWo⟩)
    (cWo : PySem.W.codeIn K cdWo "_law_word" = true)
    (kWo : PySem.W.keepIn K (.ref fWo) = true)
    (aMk : PySem.W.nsIn K mainGlobals "_law_marks" = some (some (.ref fMk)))
    (lMk : K.lookup fMk = some ⟨ocMk, odMk, .func (PySem.W.fnOf "_law_marks" "_law_marks" (defArgs sMarks) (defBody sMarks) (defScope sMarks) .none kVMk dcMk pmMk anMk cdMk ctMk), slMk⟩)
    (cMk : PySem.W.codeIn K cdMk "_law_marks" = true)
    (kMk : PySem.W.keepIn K (.ref fMk) = true)
    (aDu : PySem.W.nsIn K mainGlobals "_law_due_marks" = some (some (.ref fDu)))
    (lDu : K.lookup fDu = some ⟨ocDu, odDu, .func (PySem.W.fnOf "_law_due_marks" "_law_due_marks" (defArgs sDue) (defBody sDue) (defScope sDue) .none kVDu dcDu pmDu anDu cdDu ctDu), slDu⟩)
    (cDu : PySem.W.codeIn K cdDu "_law_due_marks" = true)
    (kDu : PySem.W.keepIn K (.ref fDu) = true)
    (aDn : PySem.W.nsIn K mainGlobals "_law_drawn" = some (some (.ref fDn)))
    (lDn : K.lookup fDn = some ⟨ocDn, odDn, .func (PySem.W.fnOf "_law_drawn" "_law_drawn" (defArgs sDrawn) (defBody sDrawn) (defScope sDrawn) .none kVDn dcDn pmDn anDn cdDn ctDn), slDn⟩)
    (cDn : PySem.W.codeIn K cdDn "_law_drawn" = true)
    (kDn : PySem.W.keepIn K (.ref fDn) = true)
    (aLi : PySem.W.nsIn K mainGlobals "_law_list" = some (some (.ref fLi)))
    (lLi : K.lookup fLi = some ⟨ocLi, odLi, .func (PySem.W.fnOf "_law_list" "_law_list" (defArgs sLList) (defBody sLList) (defScope sLList) .none kVLi dcLi pmLi anLi cdLi ctLi), slLi⟩)
    (cLi : PySem.W.codeIn K cdLi "_law_list" = true)
    (kLi : PySem.W.keepIn K (.ref fLi) = true)
    (aLs : PySem.W.nsIn K mainGlobals "_law_lists" = some (some (.ref fLs)))
    (lLs : K.lookup fLs = some ⟨ocLs, odLs, .func (PySem.W.fnOf "_law_lists" "_law_lists" (defArgs sLLists) (defBody sLLists) (defScope sLLists) .none kVLs dcLs pmLs anLs cdLs ctLs), slLs⟩)
    (cLs : PySem.W.codeIn K cdLs "_law_lists" = true)
    (kLs : PySem.W.keepIn K (.ref fLs) = true)
    (aRf : PySem.W.nsIn K mainGlobals "_law_refused" = some (some (.ref fRf)))
    (lRf : K.lookup fRf = some ⟨ocRf, odRf, .func (PySem.W.fnOf "_law_refused" "_law_refused" (defArgs sRefd) (defBody sRefd) (defScope sRefd) .none kVRf dcRf pmRf anRf cdRf ctRf), slRf⟩)
    (cRf : PySem.W.codeIn K cdRf "_law_refused" = true)
    (kRf : PySem.W.keepIn K (.ref fRf) = true)
    (aSo : PySem.W.nsIn K mainGlobals "_law_spoilt" = some (some (.ref fSo)))
    (lSo : K.lookup fSo = some ⟨ocSo, odSo, .func (PySem.W.fnOf "_law_spoilt" "_law_spoilt" (defArgs sSpoilt) (defBody sSpoilt) (defScope sSpoilt) .none kVSo dcSo pmSo anSo cdSo ctSo), slSo⟩)
    (cSo : PySem.W.codeIn K cdSo "_law_spoilt" = true)
    (kSo : PySem.W.keepIn K (.ref fSo) = true)
    (aHp : PySem.W.nsIn K mainGlobals "_law_shapes" = some (some (.ref fHp)))
    (lHp : K.lookup fHp = some ⟨ocHp, odHp, .func (PySem.W.fnOf "_law_shapes" "_law_shapes" (defArgs sShapes) (defBody sShapes) (defScope sShapes) .none kVHp dcHp pmHp anHp cdHp ctHp), slHp⟩)
    (cHp : PySem.W.codeIn K cdHp "_law_shapes" = true)
    (kHp : PySem.W.keepIn K (.ref fHp) = true)
    (aAo : PySem.W.nsIn K mainGlobals "_law_asked_one" = some (some (.ref fAo)))
    (lAo : K.lookup fAo = some ⟨ocAo, odAo, .func (PySem.W.fnOf "_law_asked_one" "_law_asked_one" (defArgs sAo) (defBody sAo) (defScope sAo) .none kVAo dcAo pmAo anAo cdAo ctAo), slAo⟩)
    (cAo : PySem.W.codeIn K cdAo "_law_asked_one" = true)
    (kAo : PySem.W.keepIn K (.ref fAo) = true)
    (aBw : PySem.W.nsIn K mainGlobals "_law_bad_word" = some (some (.ref fBw)))
    (lBw : K.lookup fBw = some ⟨ocBw, odBw, .func (PySem.W.fnOf "_law_bad_word" "_law_bad_word" (defArgs sBadW) (defBody sBadW) (defScope sBadW) .none kVBw dcBw pmBw anBw cdBw ctBw), slBw⟩)
    (cBw : PySem.W.codeIn K cdBw "_law_bad_word" = true)
    (kBw : PySem.W.keepIn K (.ref fBw) = true)
    (aBs : PySem.W.nsIn K mainGlobals "_law_bad_words" = some (some (.ref fBs)))
    (lBs : K.lookup fBs = some ⟨ocBs, odBs, .func (PySem.W.fnOf "_law_bad_words" "_law_bad_words" (defArgs sBadWs) (defBody sBadWs) (defScope sBadWs) .none kVBs dcBs pmBs anBs cdBs ctBs), slBs⟩)
    (cBs : PySem.W.codeIn K cdBs "_law_bad_words" = true)
    (kBs : PySem.W.keepIn K (.ref fBs) = true)
    (aTt : PySem.W.nsIn K mainGlobals "_law_text" = some (some (.ref fTt)))
    (lTt : K.lookup fTt = some ⟨ocTt, odTt, .func (PySem.W.fnOf "_law_text" "_law_text" (defArgs sLText) (defBody sLText) (defScope sLText) .none kVTt dcTt pmTt anTt cdTt ctTt), slTt⟩)
    (cTt : PySem.W.codeIn K cdTt "_law_text" = true)
    (kTt : PySem.W.keepIn K (.ref fTt) = true)
    (aTs : PySem.W.nsIn K mainGlobals "_law_texts" = some (some (.ref fTs)))
    (lTs : K.lookup fTs = some ⟨ocTs, odTs, .func (PySem.W.fnOf "_law_texts" "_law_texts" (defArgs sLTexts) (defBody sLTexts) (defScope sLTexts) .none kVTs dcTs pmTs anTs cdTs ctTs), slTs⟩)
    (cTs : PySem.W.codeIn K cdTs "_law_texts" = true)
    (kTs : PySem.W.keepIn K (.ref fTs) = true)
    (aPi : PySem.W.nsIn K mainGlobals "_law_picture" = some (some (.ref fPi)))
    (lPi : K.lookup fPi = some ⟨ocPi, odPi, .func (PySem.W.fnOf "_law_picture" "_law_picture" (defArgs sLPic) (defBody sLPic) (defScope sLPic) .none kVPi dcPi pmPi anPi cdPi ctPi), slPi⟩)
    (cPi : PySem.W.codeIn K cdPi "_law_picture" = true)
    (kPi : PySem.W.keepIn K (.ref fPi) = true)
    (aPd : PySem.W.nsIn K mainGlobals "_law_pictured" = some (some (.ref fPd)))
    (lPd : K.lookup fPd = some ⟨ocPd, odPd, .func (PySem.W.fnOf "_law_pictured" "_law_pictured" (defArgs sPictured) (defBody sPictured) (defScope sPictured) .none kVPd dcPd pmPd anPd cdPd ctPd), slPd⟩)
    (cPd : PySem.W.codeIn K cdPd "_law_pictured" = true)
    (kPd : PySem.W.keepIn K (.ref fPd) = true)
    (aL : PySem.W.nsIn K mainGlobals "law" = some (some (.ref fL)))
    (lL : K.lookup fL = some ⟨ocL, odL, .func (PySem.W.fnOf "law" "law" (defArgs sLaw) (defBody sLaw) (defScope sLaw) .none kVL dcL pmL anL cdL ctL), slL⟩)
    (cL : PySem.W.codeIn K cdL "law" = true)
    (kL : PySem.W.keepIn K (.ref fL) = true)
    (z_abs : PySem.W.nsIn K mainGlobals "abs" = some none)
    (z_len : PySem.W.nsIn K mainGlobals "len" = some none)
    (z_int : PySem.W.nsIn K mainGlobals "int" = some none)
    (z_max : PySem.W.nsIn K mainGlobals "max" = some none)
    (z_range : PySem.W.nsIn K mainGlobals "range" = some none)
    (z_isinstance : PySem.W.nsIn K mainGlobals "isinstance" = some none)
    (z_bool : PySem.W.nsIn K mainGlobals "bool" = some none)
    (z_zip : PySem.W.nsIn K mainGlobals "zip" = some none)
    (z_tuple : PySem.W.nsIn K mainGlobals "tuple" = some none)
    (z_list : PySem.W.nsIn K mainGlobals "list" = some none)
    (z_sum : PySem.W.nsIn K mainGlobals "sum" = some none)
    (z_all : PySem.W.nsIn K mainGlobals "all" = some none)
    (z_reversed : PySem.W.nsIn K mainGlobals "reversed" = some none)
    (z_str : PySem.W.nsIn K mainGlobals "str" = some none)
    (z_ValueError : PySem.W.nsIn K mainGlobals "ValueError" = some none)
    : ∃ fd : FuncData, (∀ (s : Shared) (v : Value), BindsTo s fd ⟨[v], []⟩ [("script", v)]) ∧ ∀ base : Heap, K.In base → base.Ns mainGlobals mg → base.NoSeer → FnOk l.prog w K mg base CX0 40 fa fd ["script"] (spLaw K) := by
  have e := hfa.symm.trans (PySem.W.mg_of X G aL)
  cases e
  have T : TxtL mg := ⟨PySem.W.mg_none_of X G z_abs, PySem.W.mg_none_of X G z_len, PySem.W.mg_none_of X G z_int, PySem.W.mg_none_of X G z_max, PySem.W.mg_none_of X G z_range, PySem.W.mg_none_of X G z_isinstance, PySem.W.mg_none_of X G z_bool⟩
  have xeC : PySem.W.kitOne K (.ref C) (.ref C) = some true := by
    unfold PySem.W.kitOne
    rw [if_pos (beq_self_eq_true _)]
  have icC : C8.InsC K C := ⟨⟨pgC, hdC, poC, saC⟩, xaC, xn, xt, xmC, xeC⟩
  obtain ⟨fdI, FI⟩ : ∃ fd, FunD K "__init__" "Ratio.__init__" (defArgs sInit) (defBody sInit) (defScope sInit) [.int 1] [] fI fd := ⟨_, ⟨ocI, odI, .ref TT, kVI, dcI, pmI, anI, cdI, ctI, slI, rfl, lI, cI, .inr ⟨(fun z => nomatch z), TT, _, [.int 1 tkT], nT0, rfl, lT, rfl, .cons ⟨tkT, rfl⟩ .nil⟩, .inl rfl⟩, kI⟩
  have bI : Binds K fdI ["self", "top", "bottom"] [] := by
    obtain ⟨ds, v, b⟩ := FI.binds1 (ps := ["self", "top", "bottom"]) 3 1 (fun z => nomatch z) rfl fun T kV doc pm an cdv ct us its hu hi => match us, its, hu, hi with | [_, _, _], [_], _, _ => ⟨_, rfl, rfl⟩
    cases v
    exact b
  have bI1 : ∃ ds, Vals [V.int 1] ds ∧ Binds K fdI ["self", "top", "bottom"] ds := FI.binds1 (ps := ["self", "top", "bottom"]) 2 0 (fun z => nomatch z) rfl fun T kV doc pm an cdv ct us its hu hi => match us, its, hu, hi with | [_, _], [_], _, _ => ⟨_, rfl, rfl⟩
  have FWh := fun_mk (st := sWhole) lWh cWh kWh
  have bWh := FWh.binds (ps := ["self"]) fun _ _ _ _ _ _ us hl => match us, hl with | [_], _ => rfl
  have FRx := fun_mk (st := sRText) lRx cRx kRx
  have bRx := FRx.binds (ps := ["self"]) fun _ _ _ _ _ _ us hl => match us, hl with | [_], _ => rfl
  have FMi := fun_mk (st := sMi) lMi cMi kMi
  have bMi := FMi.binds (ps := ["self", "letters", "start", "steps", "end"]) fun _ _ _ _ _ _ us hl => match us, hl with | [_, _, _, _, _], _ => rfl
  have FSi := fun_mk (st := sSi) lSi cSi kSi
  have bSi := FSi.binds (ps := ["self"]) fun _ _ _ _ _ _ us hl => match us, hl with | [_], _ => rfl
  have FFi := fun_mk (st := sFit) lFi cFi kFi
  have bFi := FFi.binds (ps := ["self"]) fun _ _ _ _ _ _ us hl => match us, hl with | [_], _ => rfl
  have FSt := fun_mk (st := sSta) lSt cSt kSt
  have bSt := FSt.binds (ps := ["self", "letter"]) fun _ _ _ _ _ _ us hl => match us, hl with | [_, _], _ => rfl
  have FRw := fun_mk (st := sRwa) lRw cRw kRw
  have bRw := FRw.binds (ps := ["self", "word"]) fun _ _ _ _ _ _ us hl => match us, hl with | [_, _], _ => rfl
  have FNu := fun_mk (st := sNum) lNu cNu kNu
  have bNu := FNu.binds (ps := ["self", "word"]) fun _ _ _ _ _ _ us hl => match us, hl with | [_, _], _ => rfl
  have FCa := fun_mk (st := sCall) lCa cCa kCa
  have bCa := FCa.binds (ps := ["self", "word"]) fun _ _ _ _ _ _ us hl => match us, hl with | [_, _], _ => rfl
  have FMr := fun_mk (st := sRow) lMr cMr kMr
  have bMr := FMr.binds (ps := ["self", "word"]) fun _ _ _ _ _ _ us hl => match us, hl with | [_, _], _ => rfl
  have FMc := fun_mk (st := sCol) lMc cMc kMc
  have bMc := FMc.binds (ps := ["self", "word"]) fun _ _ _ _ _ _ us hl => match us, hl with | [_, _], _ => rfl
  have FMt := fun_mk (st := sTab) lMt cMt kMt
  have bMt := FMt.binds (ps := ["self", "word"]) fun _ _ _ _ _ _ us hl => match us, hl with | [_, _], _ => rfl
  have FMp := fun_mk (st := sMPic) lMp cMp kMp
  have bMp := FMp.binds (ps := ["self"]) fun _ _ _ _ _ _ us hl => match us, hl with | [_], _ => rfl
  have FCb := fun_mk (st := sCbm) lCb cCb kCb
  have bCb := FCb.binds (ps := ["row"]) fun _ _ _ _ _ _ us hl => match us, hl with | [_], _ => rfl
  have mCb := PySem.W.mg_of X G aCb
  have FTa := fun_mk (st := sTa) lTa cTa kTa
  have bTa := FTa.binds (ps := ["row", "bottom"]) fun _ _ _ _ _ _ us hl => match us, hl with | [_, _], _ => rfl
  have mTa := PySem.W.mg_of X G aTa
  have FRa := fun_mk (st := sRa) lRa cRa kRa
  have bRa := FRa.binds (ps := ["row"]) fun _ _ _ _ _ _ us hl => match us, hl with | [_], _ => rfl
  have mRa := PySem.W.mg_of X G aRa
  have FTb := fun_mk (st := sTb) lTb cTb kTb
  have bTb := FTb.binds (ps := ["table"]) fun _ _ _ _ _ _ us hl => match us, hl with | [_], _ => rfl
  have mTb := PySem.W.mg_of X G aTb
  have FWp := fun_mk (st := sWp) lWp cWp kWp
  have bWp := FWp.binds (ps := ["one", "other"]) fun _ _ _ _ _ _ us hl => match us, hl with | [_, _], _ => rfl
  have mWp := PySem.W.mg_of X G aWp
  have FWr := fun_mk (st := sWr) lWr cWr kWr
  have bWr := FWr.binds (ps := ["row", "square"]) fun _ _ _ _ _ _ us hl => match us, hl with | [_, _], _ => rfl
  have mWr := PySem.W.mg_of X G aWr
  have FSf := fun_mk (st := sShf) lSf cSf kSf
  have bSf := FSf.binds (ps := ["row"]) fun _ _ _ _ _ _ us hl => match us, hl with | [_], _ => rfl
  have mSf := PySem.W.mg_of X G aSf
  have FSh := fun_mk (st := sShd) lSh cSh kSh
  have bSh := FSh.binds (ps := ["tops", "bottom"]) fun _ _ _ _ _ _ us hl => match us, hl with | [_, _], _ => rfl
  have mSh := PySem.W.mg_of X G aSh
  have FTh := fun_mk (st := sRth) lTh cTh kTh
  have bTh := FTh.binds (ps := ["tops", "bottom", "steps", "lead"]) fun _ _ _ _ _ _ us hl => match us, hl with | [_, _, _, _], _ => rfl
  have mTh := PySem.W.mg_of X G aTh
  have FAl := fun_mk (st := sAlpha) lAl cAl kAl
  have bAl := FAl.binds (ps := ["letters"]) fun _ _ _ _ _ _ us hl => match us, hl with | [_], _ => rfl
  have mAl := PySem.W.mg_of X G aAl
  have FCw := fun_mk (st := sCw) lCw cCw kCw
  have bCw := FCw.binds (ps := ["letters", "word"]) fun _ _ _ _ _ _ us hl => match us, hl with | [_, _], _ => rfl
  have mCw := PySem.W.mg_of X G aCw
  have FTx := fun_mk (st := sTexts) lTx cTx kTx
  have bTx := FTx.binds (ps := ["row"]) fun _ _ _ _ _ _ us hl => match us, hl with | [_], _ => rfl
  have mTx := PySem.W.mg_of X G aTx
  have FFe := fun_mk (st := sFeed) lFe cFe kFe
  have bFe := FFe.binds (ps := ["script"]) fun _ _ _ _ _ _ us hl => match us, hl with | [_], _ => rfl
  have mFe := PySem.W.mg_of X G aFe
  have FDr := fun_mk (st := sDraw) lDr cDr kDr
  have bDr := FDr.binds (ps := ["feed", "limit"]) fun _ _ _ _ _ _ us hl => match us, hl with | [_, _], _ => rfl
  have mDr := PySem.W.mg_of X G aDr
  have FGr := fun_mk (st := sGreat) lGr cGr kGr
  have bGr := FGr.binds (ps := ["feed", "parts"]) fun _ _ _ _ _ _ us hl => match us, hl with | [_, _], _ => rfl
  have mGr := PySem.W.mg_of X G aGr
  have FPa := fun_mk (st := sPair) lPa cPa kPa
  have bPa := FPa.binds (ps := ["above", "below"]) fun _ _ _ _ _ _ us hl => match us, hl with | [_, _], _ => rfl
  have mPa := PySem.W.mg_of X G aPa
  have FSu := fun_mk (st := sSum) lSu cSu kSu
  have bSu := FSu.binds (ps := ["one", "two"]) fun _ _ _ _ _ _ us hl => match us, hl with | [_, _], _ => rfl
  have mSu := PySem.W.mg_of X G aSu
  have FBy := fun_mk (st := sBy) lBy cBy kBy
  have bBy := FBy.binds (ps := ["one", "two"]) fun _ _ _ _ _ _ us hl => match us, hl with | [_, _], _ => rfl
  have mBy := PySem.W.mg_of X G aBy
  have FIs := fun_mk (st := sIsInt) lIs cIs kIs
  have bIs := FIs.binds (ps := ["actual"]) fun _ _ _ _ _ _ us hl => match us, hl with | [_], _ => rfl
  have mIs := PySem.W.mg_of X G aIs
  have FSa := fun_mk (st := sSame) lSa cSa kSa
  have bSa := FSa.binds (ps := ["actual", "due"]) fun _ _ _ _ _ _ us hl => match us, hl with | [_, _], _ => rfl
  have mSa := PySem.W.mg_of X G aSa
  have FNm := fun_mk (st := sNumber) lNm cNm kNm
  have bNm := FNm.binds (ps := ["feed", "wide"]) fun _ _ _ _ _ _ us hl => match us, hl with | [_, _], _ => rfl
  have mNm := PySem.W.mg_of X G aNm
  have FLn := fun_mk (st := sLine) lLn cLn kLn
  have bLn := FLn.binds (ps := ["feed", "width", "wide"]) fun _ _ _ _ _ _ us hl => match us, hl with | [_, _, _], _ => rfl
  have mLn := PySem.W.mg_of X G aLn
  have FDo := fun_mk (st := sDot) lDo cDo kDo
  have bDo := FDo.binds (ps := ["one", "two"]) fun _ _ _ _ _ _ us hl => match us, hl with | [_, _], _ => rfl
  have mDo := PySem.W.mg_of X G aDo
  have FRb := fun_mk (st := sRowBy) lRb cRb kRb
  have bRb := FRb.binds (ps := ["line", "step"]) fun _ _ _ _ _ _ us hl => match us, hl with | [_, _], _ => rfl
  have mRb := PySem.W.mg_of X G aRb
  have FLw := fun_mk (st := sLRow) lLw cLw kLw
  have bLw := FLw.binds (ps := ["parts", "word"]) fun _ _ _ _ _ _ us hl => match us, hl with | [_, _], _ => rfl
  have mLw := PySem.W.mg_of X G aLw
  have FWo := fun_mk (st := sWord) lWo cWo kWo
  have bWo := FWo.binds (ps := ["feed", "letters", "length"]) fun _ _ _ _ _ _ us hl => match us, hl with | [_, _, _], _ => rfl
  have mWo := PySem.W.mg_of X G aWo
  have FMk := fun_mk (st := sMarks) lMk cMk kMk
  have bMk := FMk.binds (ps := ["e"]) fun _ _ _ _ _ _ us hl => match us, hl with | [_], _ => rfl
  have mMk := PySem.W.mg_of X G aMk
  have FDu := fun_mk (st := sDue) lDu cDu kDu
  have bDu := FDu.binds (ps := ["k"]) fun _ _ _ _ _ _ us hl => match us, hl with | [_], _ => rfl
  have mDu := PySem.W.mg_of X G aDu
  have FDn := fun_mk (st := sDrawn) lDn cDn kDn
  have bDn := FDn.binds (ps := ["feed"]) fun _ _ _ _ _ _ us hl => match us, hl with | [_], _ => rfl
  have mDn := PySem.W.mg_of X G aDn
  have FLi := fun_mk (st := sLList) lLi cLi kLi
  have bLi := FLi.binds (ps := ["line"]) fun _ _ _ _ _ _ us hl => match us, hl with | [_], _ => rfl
  have mLi := PySem.W.mg_of X G aLi
  have FLs := fun_mk (st := sLLists) lLs cLs kLs
  have bLs := FLs.binds (ps := ["parts"]) fun _ _ _ _ _ _ us hl => match us, hl with | [_], _ => rfl
  have mLs := PySem.W.mg_of X G aLs
  have FRf := fun_mk (st := sRefd) lRf cRf kRf
  have bRf := FRf.binds (ps := ["letters", "passed"]) fun _ _ _ _ _ _ us hl => match us, hl with | [_, _], _ => rfl
  have mRf := PySem.W.mg_of X G aRf
  have FSo := fun_mk (st := sSpoilt) lSo cSo kSo
  have bSo := FSo.binds (ps := ["feed", "parts", "kind"]) fun _ _ _ _ _ _ us hl => match us, hl with | [_, _, _], _ => rfl
  have mSo := PySem.W.mg_of X G aSo
  have FHp := fun_mk (st := sShapes) lHp cHp kHp
  have bHp := FHp.binds (ps := ["feed", "parts"]) fun _ _ _ _ _ _ us hl => match us, hl with | [_, _], _ => rfl
  have mHp := PySem.W.mg_of X G aHp
  have FAo := fun_mk (st := sAo) lAo cAo kAo
  have bAo := FAo.binds (ps := ["machine", "word", "kind"]) fun _ _ _ _ _ _ us hl => match us, hl with | [_, _, _], _ => rfl
  have mAo := PySem.W.mg_of X G aAo
  have FBw := fun_mk (st := sBadW) lBw cBw kBw
  have bBw := FBw.binds (ps := ["machine", "word", "kind"]) fun _ _ _ _ _ _ us hl => match us, hl with | [_, _, _], _ => rfl
  have mBw := PySem.W.mg_of X G aBw
  have FBs := fun_mk (st := sBadWs) lBs cBs kBs
  have bBs := FBs.binds (ps := ["feed", "machine", "letters"]) fun _ _ _ _ _ _ us hl => match us, hl with | [_, _, _], _ => rfl
  have mBs := PySem.W.mg_of X G aBs
  have FTt := fun_mk (st := sLText) lTt cTt kTt
  have bTt := FTt.binds (ps := ["one"]) fun _ _ _ _ _ _ us hl => match us, hl with | [_], _ => rfl
  have mTt := PySem.W.mg_of X G aTt
  have FTs := fun_mk (st := sLTexts) lTs cTs kTs
  have bTs := FTs.binds (ps := ["line"]) fun _ _ _ _ _ _ us hl => match us, hl with | [_], _ => rfl
  have mTs := PySem.W.mg_of X G aTs
  have FPi := fun_mk (st := sLPic) lPi cPi kPi
  have bPi := FPi.binds (ps := ["parts"]) fun _ _ _ _ _ _ us hl => match us, hl with | [_], _ => rfl
  have mPi := PySem.W.mg_of X G aPi
  have FPd := fun_mk (st := sPictured) lPd cPd kPd
  have bPd := FPd.binds (ps := ["machine", "parts"]) fun _ _ _ _ _ _ us hl => match us, hl with | [_, _], _ => rfl
  have mPd := PySem.W.mg_of X G aPd
  refine ⟨PySem.W.fnOf "law" "law" (defArgs sLaw) (defBody sLaw) (defScope sLaw) .none kVL dcL pmL anL cdL ctL, fun s v => .of_eq rfl, fun base _ _ seer => ?_⟩
  have BG : PL.Big l.prog base := ⟨seer, ht⟩
  have TR : TxtR K mg C := ⟨⟨pgC, hdC, poC, saC⟩, nCtop, nCbottom, PySem.W.mg_of X G aC, PySem.W.mg_of X G xGcd⟩
  have TM : TxtM K mg CM := ⟨⟨pgCM, hdCM, poCM, saCM⟩, nCMletters, nCMstart, nCMsteps, nCMend, nCM_above, PySem.W.mg_of X G aCM⟩
  have TP : TxtP mg := ⟨PySem.W.mg_none_of X G z_zip, PySem.W.mg_of X G xLcm, PySem.W.mg_none_of X G z_tuple, PySem.W.mg_none_of X G z_list, PySem.W.mg_none_of X G z_range⟩
  have msum := PySem.W.mg_none_of X G z_sum
  have mall := PySem.W.mg_none_of X G z_all
  have mrev := PySem.W.mg_none_of X G z_reversed
  have M : Mk K C fI := ⟨mkC, aI, iI, kcC⟩
  have MM : Mk K CM fMi := ⟨mkCM, aMi, iMi, kcCM⟩
  have GI := ok_initB (P := l.prog) (w := w) (base := base) BG FI TR
  have cCb : CalN l.prog w K mg base "common_bottom" 1 ["row"] (spCbm C) fCb _ := ⟨ok_cbm FCb TP TR, mCb, kCb, bCb⟩
  have cTa : CalN l.prog w K mg base "tops_above" 33 ["row", "bottom"] (spTa C) fTa _ := ⟨ok_ta BG FTa TR, mTa, kTa, bTa⟩
  have cRa : CalN l.prog w K mg base "row_above" 34 ["row"] (spRa C) fRa _ := ⟨ok_ra FRa cCb cTa, mRa, kRa, bRa⟩
  have cTb : CalN l.prog w K mg base "table_above" 34 ["table"] (spTb C) fTb _ := ⟨ok_tb FTb TP cCb cTa, mTb, kTb, bTb⟩
  have cWp : CalN l.prog w K mg base "whole_product" 1 ["one", "other"] (spWp C) fWp _ := ⟨ok_wp FWp TP msum, mWp, kWp, bWp⟩
  have cWr : CalN l.prog w K mg base "whole_row_times" 1 ["row", "square"] (spWr C) fWr _ := ⟨ok_wr FWr T TP, mWr, kWr, bWr⟩
  have cSf : CalN l.prog w K mg base "shared_factor" 1 ["row"] (spShf C) fSf _ := ⟨ok_shf FSf TR, mSf, kSf, bSf⟩
  have cSh : CalN l.prog w K mg base "shortened" 33 ["tops", "bottom"] (spShd C) fSh _ := ⟨ok_shd BG FSh cSf, mSh, kSh, bSh⟩
  have cTh : CalN l.prog w K mg base "row_through" 34 ["tops", "bottom", "steps", "lead"] (spRth C stR fWr) fTh _ := ⟨ok_rth FTh T (PySem.W.mg_of X G xSH) (by decide) cSh cWr, mTh, kTh, bTh⟩
  have cAl : CalN l.prog w K mg base "alphabet" 1 ["letters"] spAl fAl _ := ⟨ok_al FAl (PySem.W.mg_of X G xLet), mAl, kAl, bAl⟩
  have cCw : CalN l.prog w K mg base "check_word" 2 ["letters", "word"] spCw fCw _ := ⟨ok_cw FCw cAl, mCw, kCw, bCw⟩
  have cSi : PropN l.prog w K mg base CM "size" 1 (spSi C CM) qSi fSi _ := ⟨ok_si FSi T TM, ⟨aSi, g1Si, g2Si, ⟨_, g3Si⟩⟩, bSi⟩
  have cFi : MetN l.prog w K mg base CM "_fits" 1 ["self"] (spFit C CM) fFi _ := ⟨ok_fit FFi T TM mall, ⟨aFi, iFi, kFi⟩, bFi⟩
  have cSt : MetN l.prog w K mg base CM "_step_above" 35 ["self", "letter"] (spSta C CM) fSt _ := ⟨ok_sta FSt TM cAl cTb, ⟨aSt, iSt, kSt⟩, bSt⟩
  have cRw : MetN l.prog w K mg base CM "_row_above" 36 ["self", "word"] (spRwa C CM) fRw _ := ⟨ok_rwa FRw TM cCw cRa cSt cWr cTh, ⟨aRw, iRw, kRw⟩, bRw⟩
  have cNu : MetN l.prog w K mg base CM "number" 37 ["self", "word"] (spNum C CM) fNu _ := ⟨ok_num FNu TR TM M GI bI cRw cRa cWp, ⟨aNu, iNu, kNu⟩, bNu⟩
  have GC := ok_call FCa TM cNu
  have cCa : CallN l.prog w K mg base C CM fCa := ⟨⟨aCa, iCa, fiCa⟩, FnOk.raw GC bCa .nil⟩
  have GM := ok_mi (P := l.prog) (w := w) (base := base) FMi TP TM cFi
  have R : Errs K mg fW (fun i => ([E0, E1, E2, E3, E4, E5, E6, E7, E8, E9, E10] : List Addr).getD i 0) := errs_of (inj_of nd rfl) (XE.upto10 (p := fun i => XE.Line K (([E0, E1, E2, E3, E4, E5, E6, E7, E8, E9, E10] : List Addr).getD i 0) (XE.chain (fun i => ([E0, E1, E2, E3, E4, E5, E6, E7, E8, E9, E10] : List Addr).getD i 0) i)) ⟨_, _, _, _, _, _, _, _, _, _, _, _, _, _, xE0⟩ ⟨_, _, _, _, _, _, _, _, _, _, _, _, _, _, xE1⟩ ⟨_, _, _, _, _, _, _, _, _, _, _, _, _, _, xE2⟩ ⟨_, _, _, _, _, _, _, _, _, _, _, _, _, _, xE3⟩ ⟨_, _, _, _, _, _, _, _, _, _, _, _, _, _, xE4⟩ ⟨_, _, _, _, _, _, _, _, _, _, _, _, _, _, xE5⟩ ⟨_, _, _, _, _, _, _, _, _, _, _, _, _, _, xE6⟩ ⟨_, _, _, _, _, _, _, _, _, _, _, _, _, _, xE7⟩ ⟨_, _, _, _, _, _, _, _, _, _, _, _, _, _, xE8⟩ ⟨_, _, _, _, _, _, _, _, _, _, _, _, _, _, xE9⟩ ⟨_, _, _, _, _, _, _, _, _, _, _, _, _, _, xE10⟩)
    (XE.upto10 (p := fun i => PySem.W.findIn K (.ref (([E0, E1, E2, E3, E4, E5, E6, E7, E8, E9, E10] : List Addr).getD i 0)) "__setattr__" = some (some (.builtin "object.__setattr__"))) sE0 sE1 sE2 sE3 sE4 sE5 sE6 sE7 sE8 sE9 sE10)
    (XE.upto10 (p := fun i => PySem.W.keepIn K (.ref (([E0, E1, E2, E3, E4, E5, E6, E7, E8, E9, E10] : List Addr).getD i 0)) = true) kE0 kE1 kE2 kE3 kE4 kE5 kE6 kE7 kE8 kE9 kE10)
    (XE.upto10 (p := fun i => PySem.W.findIn K (.ref (([E0, E1, E2, E3, E4, E5, E6, E7, E8, E9, E10] : List Addr).getD i 0)) "__init__" = some (some (.ref fW))) iE0 iE1 iE2 iE3 iE4 iE5 iE6 iE7 iE8 iE9 iE10)
    (XE.upto10 (p := fun i => PySem.W.findIn K (.ref (([E0, E1, E2, E3, E4, E5, E6, E7, E8, E9, E10] : List Addr).getD i 0)) "what" = some none) nE0 nE1 nE2 nE3 nE4 nE5 nE6 nE7 nE8 nE9 nE10) tW
    (XE.upto10 (p := fun i => PySem.W.findIn K (.ref (([E0, E1, E2, E3, E4, E5, E6, E7, E8, E9, E10] : List Addr).getD i 0)) "__getattribute__" = some (some (.builtin "BaseException.__getattribute__"))) gE0 gE1 gE2 gE3 gE4 gE5 gE6 gE7 gE8 gE9 gE10)
    (XE.upto10 (p := fun i => PySem.W.findIn K (.ref (([E0, E1, E2, E3, E4, E5, E6, E7, E8, E9, E10] : List Addr).getD i 0)) "__getattr__" = some none) hE0 hE1 hE2 hE3 hE4 hE5 hE6 hE7 hE8 hE9 hE10)
    (XE.upto10 (p := fun i => PySem.W.hasDictIn K (([E0, E1, E2, E3, E4, E5, E6, E7, E8, E9, E10] : List Addr).getD i 0) = true) dE0 dE1 dE2 dE3 dE4 dE5 dE6 dE7 dE8 dE9 dE10)
    (XE.upto10 (p := fun i => PySem.W.findIn K (.ref (([E0, E1, E2, E3, E4, E5, E6, E7, E8, E9, E10] : List Addr).getD i 0)) "__class__" = some (some (.builtin "object.__class__"))) cE0 cE1 cE2 cE3 cE4 cE5 cE6 cE7 cE8 cE9 cE10) xn xt
    (PySem.W.mg_of X G aE0) (PySem.W.mg_of X G aE1) (PySem.W.mg_of X G aE2) (PySem.W.mg_of X G aE3) (PySem.W.mg_of X G aE4) (PySem.W.mg_of X G aE5) (PySem.W.mg_of X G aE6) (PySem.W.mg_of X G aE7) (PySem.W.mg_of X G aE8) (PySem.W.mg_of X G aE9) (PySem.W.mg_of X G aE10)
  obtain ⟨fdW, FW⟩ : ∃ fd, FunD K "__init__" "WordError.__init__" (defArgs sWi) (defBody sWi) (defScope sWi) [.non] [] fW fd := ⟨_, ⟨ocW, odW, .ref TW, kVW, dcW, pmW, anW, cdW, ctW, slW, rfl, lW, cW, .inr ⟨(fun z => nomatch z), TW, _, [.none], nU, rfl, lTW, rfl, .cons rfl .nil⟩, .inl rfl⟩, kW⟩
  have bW : Binds K fdW ["self", "what"] [] := by
    obtain ⟨ds, v, b⟩ := FW.binds1 (ps := ["self", "what"]) 2 1 (fun z => nomatch z) rfl fun T kV doc pm an cdv ct us its hu hi => match us, its, hu, hi with | [_, _], [_], _, _ => ⟨_, rfl, rfl⟩
    cases v
    exact b
  have bW1 : ∃ ds, Vals [V.non] ds ∧ Binds K fdW ["self", "what"] ds := FW.binds1 (ps := ["self", "what"]) 1 0 (fun z => nomatch z) rfl fun T kV doc pm an cdv ct us its hu hi => match us, its, hu, hi with | [_], [_], _, _ => ⟨_, rfl, rfl⟩
  have mv := PySem.W.mg_none_of X G z_ValueError
  have GW := ok_W (P := l.prog) (w := w) (mg := mg) (base := base) FW
  have TPstr := PySem.W.mg_none_of X G z_str
  have cFx : MetN l.prog w K mg base CM "_fits" 1 ["self"] (spFitB CM) fFi _ := ⟨ok_fitB FFi T TM mall, ⟨aFi, iFi, kFi⟩, bFi⟩
  have GX := ok_miX (P := l.prog) (w := w) (base := base) FMi TP TM cFx R GW bW1
  have cM : CalP l.prog w K mg base "_law_marks" 1 ["e"] (spMarks (fun i => ([E0, E1, E2, E3, E4, E5, E6, E7, E8, E9, E10] : List Addr).getD i 0)) fMk _ := ⟨ok_marks FMk T R mv, mMk, kMk, bMk⟩
  have cU : CalP l.prog w K mg base "_law_due_marks" 1 ["k"] spDue fDu _ := ⟨ok_due FDu T, mDu, kDu, bDu⟩
  have cFe : CalN l.prog w K mg base "_law_feed" 1 ["script"] (spFeed K) fFe _ := ⟨ok_feed FFe T, mFe, kFe, bFe⟩
  have cDr : CalN l.prog w K mg base "_law_draw" 1 ["feed", "limit"] spDraw fDr _ := ⟨ok_draw FDr T, mDr, kDr, bDr⟩
  have cGr : CalN l.prog w K mg base "_law_great" 2 ["feed", "parts"] spGreat fGr _ := ⟨ok_great FGr T cDr.G mDr kDr bDr, mGr, kGr, bGr⟩
  have cPa : CalN l.prog w K mg base "_law_pair" 33 ["above", "below"] spPairB fPa _ := ⟨ok_pairB BG FPa T, mPa, kPa, bPa⟩
  have cSu : CalN l.prog w K mg base "_law_sum" 34 ["one", "two"] spSumQ fSu _ := ⟨FnOk.weak (ok_sumB FSu cPa.G mPa kPa bPa) sum_q, mSu, kSu, bSu⟩
  have cBy : CalN l.prog w K mg base "_law_by" 34 ["one", "two"] spByQ fBy _ := ⟨FnOk.weak (ok_byB FBy cPa.G mPa kPa bPa) by_q, mBy, kBy, bBy⟩
  have cIs : CalN l.prog w K mg base "_law_is_integer" 1 ["actual"] spIsInt fIs _ := ⟨ok_isInt FIs T, mIs, kIs, bIs⟩
  have cSa : CalN l.prog w K mg base "_law_same" 2 ["actual", "due"] (spSame C) fSa _ := ⟨ok_same FSa T TR icC cIs.G mIs kIs bIs, mSa, kSa, bSa⟩
  have cNm : CalN l.prog w K mg base "_law_number" 34 ["feed", "wide"] spNm fNm _ := ⟨ok_nm FNm T cDr cGr cPa, mNm, kNm, bNm⟩
  have cLn : CalN l.prog w K mg base "_law_line" 35 ["feed", "width", "wide"] (spLn C) fLn _ := ⟨ok_ln FLn T cNm, mLn, kLn, bLn⟩
  have cDo : CalN l.prog w K mg base "_law_dot" 35 ["one", "two"] (spDo C) fDo _ := ⟨ok_do FDo T cSu cBy, mDo, kDo, bDo⟩
  have cRb : CalN l.prog w K mg base "_law_row_by" 36 ["line", "step"] (spRb C) fRb _ := ⟨ok_rb FRb T cDo, mRb, kRb, bRb⟩
  have cLw : CalN l.prog w K mg base "_law_row" 37 ["parts", "word"] (spLw C) fLw _ := ⟨ok_lw FLw cRb, mLw, kLw, bLw⟩
  have cWo : CalN l.prog w K mg base "_law_word" 2 ["feed", "letters", "length"] spWo fWo _ := ⟨ok_wo FWo T cDr, mWo, kWo, bWo⟩
  have cDn : CalN l.prog w K mg base "_law_drawn" 36 ["feed"] (spDn C) fDn _ := ⟨ok_dn FDn T cDr cLn, mDn, kDn, bDn⟩
  have cLi : CalN l.prog w K mg base "_law_list" 35 ["line"] (spLst C) fLi _ := ⟨ok_lst FLi TR M GI bI, mLi, kLi, bLi⟩
  have cLs : CalN l.prog w K mg base "_law_lists" 36 ["parts"] (spLls C) fLs _ := ⟨ok_lls FLs cLi, mLs, kLs, bLs⟩
  have cRf : CalN l.prog w K mg base "_law_refused" 5 ["letters", "passed"] spRfd fRf _ := ⟨ok_rfd FRf TM R MM GX bMi cM cU, mRf, kRf, bRf⟩
  have cSo : CalN l.prog w K mg base "_law_spoilt" 37 ["feed", "parts", "kind"] (spSpo C) fSo _ := ⟨ok_spo FSo T TR M GI bI1 cLs cDr, mSo, kSo, bSo⟩
  have cHp : CalN l.prog w K mg base "_law_shapes" 38 ["feed", "parts"] (spShp C) fHp _ := ⟨ok_shp FHp T cLs cDr cRf cSo, mHp, kHp, bHp⟩
  have pW' : PropOf K C "is_whole" qWh fWh := ⟨aWh, g1Wh, g2Wh, ⟨_, g3Wh⟩⟩
  have GWh := ok_whole (P := l.prog) (w := w) (base := base) FWh TR
  have cRx : MetN l.prog w K mg base C "text" 3 ["self"] (spRText C) fRx _ := ⟨ok_rtext FRx TR pW' GWh bWh, ⟨aRx, iRx, kRx⟩, bRx⟩
  have cTx : CalN l.prog w K mg base "_texts" 4 ["row"] (spTx C) fTx _ := ⟨ok_tx FTx TP TR cRx, mTx, kTx, bTx⟩
  have cMp : MetN l.prog w K mg base CM "picture" 5 ["self"] (spMp C CM) fMp _ := ⟨ok_mp FMp TP TM cTx, ⟨aMp, iMp, kMp⟩, bMp⟩
  have cTt : CalN l.prog w K mg base "_law_text" 1 ["one"] spLText fTt _ := ⟨ok_ltext FTt TPstr, mTt, kTt, bTt⟩
  have cTs : CalN l.prog w K mg base "_law_texts" 2 ["line"] (spLts C) fTs _ := ⟨ok_lts FTs TP cTt, mTs, kTs, bTs⟩
  have cPi : CalN l.prog w K mg base "_law_picture" 3 ["parts"] (spPic C) fPi _ := ⟨ok_lpic FPi T TP cTs, mPi, kPi, bPi⟩
  have cPd : CalN l.prog w K mg base "_law_pictured" 6 ["machine", "parts"] (spPd C CM) fPd _ := ⟨ok_pd FPd T TP TM cMp cIs cPi, mPd, kPd, bPd⟩
  have xCw : CalX l.prog w K mg base "check_word" 3 ["letters", "word"] (spCwX (fun i => ([E0, E1, E2, E3, E4, E5, E6, E7, E8, E9, E10] : List Addr).getD i 0)) fCw _ := ⟨ok_cwX FCw cAl R GW bW, mCw, kCw, bCw⟩
  have xRw : MetX l.prog w K mg base CM "_row_above" 4 ["self", "word"] (spBadM C CM (fun i => ([E0, E1, E2, E3, E4, E5, E6, E7, E8, E9, E10] : List Addr).getD i 0)) fRw _ := ⟨ok_rwaX FRw TM xCw, ⟨aRw, iRw, kRw⟩, bRw⟩
  have xNu : MetX l.prog w K mg base CM "number" 5 ["self", "word"] (spBadM C CM (fun i => ([E0, E1, E2, E3, E4, E5, E6, E7, E8, E9, E10] : List Addr).getD i 0)) fNu _ := ⟨ok_numX FNu TM xRw, ⟨aNu, iNu, kNu⟩, bNu⟩
  have xMr : MetX l.prog w K mg base CM "row" 5 ["self", "word"] (spBadM C CM (fun i => ([E0, E1, E2, E3, E4, E5, E6, E7, E8, E9, E10] : List Addr).getD i 0)) fMr _ := ⟨ok_rowX FMr TM xRw, ⟨aMr, iMr, kMr⟩, bMr⟩
  have xMc : MetX l.prog w K mg base CM "column" 4 ["self", "word"] (spBadM C CM (fun i => ([E0, E1, E2, E3, E4, E5, E6, E7, E8, E9, E10] : List Addr).getD i 0)) fMc _ := ⟨ok_colX FMc TM xCw, ⟨aMc, iMc, kMc⟩, bMc⟩
  have xMt : MetX l.prog w K mg base CM "table" 4 ["self", "word"] (spBadM C CM (fun i => ([E0, E1, E2, E3, E4, E5, E6, E7, E8, E9, E10] : List Addr).getD i 0)) fMt _ := ⟨ok_tabX FMt TM xCw, ⟨aMt, iMt, kMt⟩, bMt⟩
  have GCX := ok_callX FCa TM xNu
  have xCa : CallX l.prog w K mg base C CM (fun i => ([E0, E1, E2, E3, E4, E5, E6, E7, E8, E9, E10] : List Addr).getD i 0) fCa := ⟨⟨aCa, iCa, fiCa⟩, FnOk.raw GCX bCa .nil⟩
  have xAo : CalX l.prog w K mg base "_law_asked_one" 7 ["machine", "word", "kind"] (spAoX C CM (fun i => ([E0, E1, E2, E3, E4, E5, E6, E7, E8, E9, E10] : List Addr).getD i 0)) fAo _ := ⟨ok_aoX FAo TM xNu xCa xMr xMc xMt, mAo, kAo, bAo⟩
  have cBw : CalN l.prog w K mg base "_law_bad_word" 8 ["machine", "word", "kind"] (spBw C CM) fBw _ := ⟨ok_bw FBw R xAo cM cU, mBw, kBw, bBw⟩
  have cBs : CalN l.prog w K mg base "_law_bad_words" 9 ["feed", "machine", "letters"] (spBs C CM) fBs _ := ⟨ok_bs FBs T cDr cWo cBw, mBs, kBs, bBs⟩
  exact ok_law (fun_mk (st := sLaw) lL cL kL) T TP TR TM M GI bI bI1 MM GM bMi cFe cDr cDn cHp cLs cWo cDo cLw cPd cSa cNu cCa cBs
theorem walk {l : PySem.W.OpenLaw} {q : Program} {loose : List Str} {XP : (Str → Option Value) → Heap → Prop} {YP : World → Heap → Prop} {d : DefRec} {K : Params → PySem.W.Frag} (hi : PyProof.Rows.importsNone q = true) (hn : l.most = some 63) (hdf : d.params.defaults = [])
    (hY : ∀ (w : World) (h : Heap), YP w h → (K w.params).In h)
    (F : ∀ (w : World) (mg : Str → Option Value) (fa : Addr) (h : Heap), (K w.params).In h → h.Ns mainGlobals mg → mg d.name = some (.ref fa) →
      ∃ fd : FuncData, (∀ (s : Shared) (u : Value), BindsTo s fd ⟨[u], []⟩ [("script", u)]) ∧ ∀ base : Heap, (K w.params).In base → base.Ns mainGlobals mg → base.NoSeer → FnOk l.prog w (K w.params) mg base CX0 40 fa fd ["script"] (spLaw (K w.params))) :
    PySem.W.WalkO q loose XP YP l.row.toRowW d [] (fun f vs => PySem.call f vs) :=
  PL.big_walk (n := 63) (k := 40) (x := "script") (CX := fun _ => CX0) (sp := fun w => spLaw (K w.params)) hi hn (by decide) hdf ⟨rfl, by decide, by decide⟩ hY F (fun _ _ a ns hl _ hS => ⟨a, ns, rfl, hS, hl, fun _ => rfl⟩) fun _ _ _ _ _ z => z
end RX

set_option Elab.async false

open PySem PySem.W PyProof.Rows in
set_option maxRecDepth 100000 in
set_option maxHeartbeats 0 in
theorem PySem.Challenge.cw_wordworth_k12_machine_shapes_holds : PySem.Challenge.rw_wordworth_k12_machine_shapes.Holds := by
  w_on; o_law; k_head; (case hw => w_witness2)
  k_fill
  refine RX.walk (l := PySem.Challenge.rw_wordworth_k12_machine_shapes) rfl rfl rfl (fun w h Y => PySem.W.kIn_of Y) ?F
  case F =>
    intro w mg fa h KX G hmg
    refine' RX.all_mk KX G hmg rfl ?xSH ?xGcd ?xLcm ?xLet ?aE10 ?xE10 ?sE10 ?kE10 ?iE10 ?nE10 ?gE10 ?hE10 ?dE10 ?cE10 ?aE0 ?xE0 ?sE0 ?kE0 ?iE0 ?nE0 ?gE0 ?hE0 ?dE0 ?cE0 ?aE1 ?xE1 ?sE1 ?kE1 ?iE1 ?nE1 ?gE1 ?hE1 ?dE1 ?cE1 ?aE2 ?xE2 ?sE2 ?kE2 ?iE2 ?nE2 ?gE2 ?hE2 ?dE2 ?cE2 ?aE3 ?xE3 ?sE3 ?kE3 ?iE3 ?nE3 ?gE3 ?hE3 ?dE3 ?cE3 ?aE4 ?xE4 ?sE4 ?kE4 ?iE4 ?nE4 ?gE4 ?hE4 ?dE4 ?cE4 ?aE5 ?xE5 ?sE5 ?kE5 ?iE5 ?nE5 ?gE5 ?hE5 ?dE5 ?cE5 ?aE6 ?xE6 ?sE6 ?kE6 ?iE6 ?nE6 ?gE6 ?hE6 ?dE6 ?cE6 ?aE7 ?xE7 ?sE7 ?kE7 ?iE7 ?nE7 ?gE7 ?hE7 ?dE7 ?cE7 ?aE8 ?xE8 ?sE8 ?kE8 ?iE8 ?nE8 ?gE8 ?hE8 ?dE8 ?cE8 ?aE9 ?xE9 ?sE9 ?kE9 ?iE9 ?nE9 ?gE9 ?hE9 ?dE9 ?cE9 ?tW ?lW ?cW ?kW ?lTW ?nd ?aC ?pgC ?hdC ?poC ?saC ?nCtop ?nCbottom ?mkC ?kcC ?xaC ?xmC ?aI ?iI ?lI ?cI ?kI ?lT ?aWh ?g1Wh ?g2Wh ?g3Wh ?lWh ?cWh ?kWh ?aRx ?iRx ?lRx ?cRx ?kRx ?aCM ?pgCM ?hdCM ?poCM ?saCM ?nCMletters ?nCMstart ?nCMsteps ?nCMend ?nCM_above ?mkCM ?kcCM ?aMi ?iMi ?lMi ?cMi ?kMi ?aSi ?g1Si ?g2Si ?g3Si ?lSi ?cSi ?kSi ?aFi ?iFi ?lFi ?cFi ?kFi ?aSt ?iSt ?lSt ?cSt ?kSt ?aRw ?iRw ?lRw ?cRw ?kRw ?aNu ?iNu ?lNu ?cNu ?kNu ?aCa ?iCa ?fiCa ?lCa ?cCa ?kCa ?aMr ?iMr ?lMr ?cMr ?kMr ?aMc ?iMc ?lMc ?cMc ?kMc ?aMt ?iMt ?lMt ?cMt ?kMt ?aMp ?iMp ?lMp ?cMp ?kMp ?xn ?xt ?aCb ?lCb ?cCb ?kCb ?aTa ?lTa ?cTa ?kTa ?aRa ?lRa ?cRa ?kRa ?aTb ?lTb ?cTb ?kTb ?aWp ?lWp ?cWp ?kWp ?aWr ?lWr ?cWr ?kWr ?aSf ?lSf ?cSf ?kSf ?aSh ?lSh ?cSh ?kSh ?aTh ?lTh ?cTh ?kTh ?aAl ?lAl ?cAl ?kAl ?aCw ?lCw ?cCw ?kCw ?aTx ?lTx ?cTx ?kTx ?aFe ?lFe ?cFe ?kFe ?aDr ?lDr ?cDr ?kDr ?aGr ?lGr ?cGr ?kGr ?aPa ?lPa ?cPa ?kPa ?aSu ?lSu ?cSu ?kSu ?aBy ?lBy ?cBy ?kBy ?aIs ?lIs ?cIs ?kIs ?aSa ?lSa ?cSa ?kSa ?aNm ?lNm ?cNm ?kNm ?aLn ?lLn ?cLn ?kLn ?aDo ?lDo ?cDo ?kDo ?aRb ?lRb ?cRb ?kRb ?aLw ?lLw ?cLw ?kLw ?aWo ?lWo ?cWo ?kWo ?aMk ?lMk ?cMk ?kMk ?aDu ?lDu ?cDu ?kDu ?aDn ?lDn ?cDn ?kDn ?aLi ?lLi ?cLi ?kLi ?aLs ?lLs ?cLs ?kLs ?aRf ?lRf ?cRf ?kRf ?aSo ?lSo ?cSo ?kSo ?aHp ?lHp ?cHp ?kHp ?aAo ?lAo ?cAo ?kAo ?aBw ?lBw ?cBw ?kBw ?aBs ?lBs ?cBs ?kBs ?aTt ?lTt ?cTt ?kTt ?aTs ?lTs ?cTs ?kTs ?aPi ?lPi ?cPi ?kPi ?aPd ?lPd ?cPd ?kPd ?aL ?lL ?cL ?kL ?z_abs ?z_len ?z_int ?z_max ?z_range ?z_isinstance ?z_bool ?z_zip ?z_tuple ?z_list ?z_sum ?z_all ?z_reversed ?z_str ?z_ValueError
    (case xSH => k_is)
    (case xGcd => k_is)
    (case xLcm => k_is)
    (case xLet => k_is)
    (case aE10 => k_is)
    (case xE10 => k_is)
    (case sE10 => k_is)
    (case kE10 => k_is)
    (case iE10 => k_is)
    (case nE10 => k_is)
    (case gE10 => k_is)
    (case hE10 => k_is)
    (case dE10 => k_is)
    (case cE10 => k_is)
    (case aE0 => k_is)
    (case xE0 => k_is)
    (case sE0 => k_is)
    (case kE0 => k_is)
    (case iE0 => k_is)
    (case nE0 => k_is)
    (case gE0 => k_is)
    (case hE0 => k_is)
    (case dE0 => k_is)
    (case cE0 => k_is)
    (case aE1 => k_is)
    (case xE1 => k_is)
    (case sE1 => k_is)
    (case kE1 => k_is)
    (case iE1 => k_is)
    (case nE1 => k_is)
    (case gE1 => k_is)
    (case hE1 => k_is)
    (case dE1 => k_is)
    (case cE1 => k_is)
    (case aE2 => k_is)
    (case xE2 => k_is)
    (case sE2 => k_is)
    (case kE2 => k_is)
    (case iE2 => k_is)
    (case nE2 => k_is)
    (case gE2 => k_is)
    (case hE2 => k_is)
    (case dE2 => k_is)
    (case cE2 => k_is)
    (case aE3 => k_is)
    (case xE3 => k_is)
    (case sE3 => k_is)
    (case kE3 => k_is)
    (case iE3 => k_is)
    (case nE3 => k_is)
    (case gE3 => k_is)
    (case hE3 => k_is)
    (case dE3 => k_is)
    (case cE3 => k_is)
    (case aE4 => k_is)
    (case xE4 => k_is)
    (case sE4 => k_is)
    (case kE4 => k_is)
    (case iE4 => k_is)
    (case nE4 => k_is)
    (case gE4 => k_is)
    (case hE4 => k_is)
    (case dE4 => k_is)
    (case cE4 => k_is)
    (case aE5 => k_is)
    (case xE5 => k_is)
    (case sE5 => k_is)
    (case kE5 => k_is)
    (case iE5 => k_is)
    (case nE5 => k_is)
    (case gE5 => k_is)
    (case hE5 => k_is)
    (case dE5 => k_is)
    (case cE5 => k_is)
    (case aE6 => k_is)
    (case xE6 => k_is)
    (case sE6 => k_is)
    (case kE6 => k_is)
    (case iE6 => k_is)
    (case nE6 => k_is)
    (case gE6 => k_is)
    (case hE6 => k_is)
    (case dE6 => k_is)
    (case cE6 => k_is)
    (case aE7 => k_is)
    (case xE7 => k_is)
    (case sE7 => k_is)
    (case kE7 => k_is)
    (case iE7 => k_is)
    (case nE7 => k_is)
    (case gE7 => k_is)
    (case hE7 => k_is)
    (case dE7 => k_is)
    (case cE7 => k_is)
    (case aE8 => k_is)
    (case xE8 => k_is)
    (case sE8 => k_is)
    (case kE8 => k_is)
    (case iE8 => k_is)
    (case nE8 => k_is)
    (case gE8 => k_is)
    (case hE8 => k_is)
    (case dE8 => k_is)
    (case cE8 => k_is)
    (case aE9 => k_is)
    (case xE9 => k_is)
    (case sE9 => k_is)
    (case kE9 => k_is)
    (case iE9 => k_is)
    (case nE9 => k_is)
    (case gE9 => k_is)
    (case hE9 => k_is)
    (case dE9 => k_is)
    (case cE9 => k_is)
    (case tW => k_is)
    (case lW => k_is)
    (case cW => k_is)
    (case kW => k_is)
    (case lTW => k_is)
    (case nd => decide)
    (case aC => k_is)
    (case pgC => k_is)
    (case hdC => k_is)
    (case poC => k_is)
    (case saC => k_is)
    (case nCtop => k_is)
    (case nCbottom => k_is)
    (case mkC => k_is)
    (case kcC => k_is)
    (case xaC => k_is)
    (case xmC => k_is)
    (case aI => k_is)
    (case iI => k_is)
    (case lI => k_is)
    (case cI => k_is)
    (case kI => k_is)
    (case lT => k_is)
    (case aWh => k_is)
    (case g1Wh => k_is)
    (case g2Wh => k_is)
    (case g3Wh => k_is)
    (case lWh => k_is)
    (case cWh => k_is)
    (case kWh => k_is)
    (case aRx => k_is)
    (case iRx => k_is)
    (case lRx => k_is)
    (case cRx => k_is)
    (case kRx => k_is)
    (case aCM => k_is)
    (case pgCM => k_is)
    (case hdCM => k_is)
    (case poCM => k_is)
    (case saCM => k_is)
    (case nCMletters => k_is)
    (case nCMstart => k_is)
    (case nCMsteps => k_is)
    (case nCMend => k_is)
    (case nCM_above => k_is)
    (case mkCM => k_is)
    (case kcCM => k_is)
    (case aMi => k_is)
    (case iMi => k_is)
    (case lMi => k_is)
    (case cMi => k_is)
    (case kMi => k_is)
    (case aSi => k_is)
    (case g1Si => k_is)
    (case g2Si => k_is)
    (case g3Si => k_is)
    (case lSi => k_is)
    (case cSi => k_is)
    (case kSi => k_is)
    (case aFi => k_is)
    (case iFi => k_is)
    (case lFi => k_is)
    (case cFi => k_is)
    (case kFi => k_is)
    (case aSt => k_is)
    (case iSt => k_is)
    (case lSt => k_is)
    (case cSt => k_is)
    (case kSt => k_is)
    (case aRw => k_is)
    (case iRw => k_is)
    (case lRw => k_is)
    (case cRw => k_is)
    (case kRw => k_is)
    (case aNu => k_is)
    (case iNu => k_is)
    (case lNu => k_is)
    (case cNu => k_is)
    (case kNu => k_is)
    (case aCa => k_is)
    (case iCa => k_is)
    (case fiCa => k_is)
    (case lCa => k_is)
    (case cCa => k_is)
    (case kCa => k_is)
    (case aMr => k_is)
    (case iMr => k_is)
    (case lMr => k_is)
    (case cMr => k_is)
    (case kMr => k_is)
    (case aMc => k_is)
    (case iMc => k_is)
    (case lMc => k_is)
    (case cMc => k_is)
    (case kMc => k_is)
    (case aMt => k_is)
    (case iMt => k_is)
    (case lMt => k_is)
    (case cMt => k_is)
    (case kMt => k_is)
    (case aMp => k_is)
    (case iMp => k_is)
    (case lMp => k_is)
    (case cMp => k_is)
    (case kMp => k_is)
    (case xn => k_is)
    (case xt => k_is)
    (case aCb => k_is)
    (case lCb => k_is)
    (case cCb => k_is)
    (case kCb => k_is)
    (case aTa => k_is)
    (case lTa => k_is)
    (case cTa => k_is)
    (case kTa => k_is)
    (case aRa => k_is)
    (case lRa => k_is)
    (case cRa => k_is)
    (case kRa => k_is)
    (case aTb => k_is)
    (case lTb => k_is)
    (case cTb => k_is)
    (case kTb => k_is)
    (case aWp => k_is)
    (case lWp => k_is)
    (case cWp => k_is)
    (case kWp => k_is)
    (case aWr => k_is)
    (case lWr => k_is)
    (case cWr => k_is)
    (case kWr => k_is)
    (case aSf => k_is)
    (case lSf => k_is)
    (case cSf => k_is)
    (case kSf => k_is)
    (case aSh => k_is)
    (case lSh => k_is)
    (case cSh => k_is)
    (case kSh => k_is)
    (case aTh => k_is)
    (case lTh => k_is)
    (case cTh => k_is)
    (case kTh => k_is)
    (case aAl => k_is)
    (case lAl => k_is)
    (case cAl => k_is)
    (case kAl => k_is)
    (case aCw => k_is)
    (case lCw => k_is)
    (case cCw => k_is)
    (case kCw => k_is)
    (case aTx => k_is)
    (case lTx => k_is)
    (case cTx => k_is)
    (case kTx => k_is)
    (case aFe => k_is)
    (case lFe => k_is)
    (case cFe => k_is)
    (case kFe => k_is)
    (case aDr => k_is)
    (case lDr => k_is)
    (case cDr => k_is)
    (case kDr => k_is)
    (case aGr => k_is)
    (case lGr => k_is)
    (case cGr => k_is)
    (case kGr => k_is)
    (case aPa => k_is)
    (case lPa => k_is)
    (case cPa => k_is)
    (case kPa => k_is)
    (case aSu => k_is)
    (case lSu => k_is)
    (case cSu => k_is)
    (case kSu => k_is)
    (case aBy => k_is)
    (case lBy => k_is)
    (case cBy => k_is)
    (case kBy => k_is)
    (case aIs => k_is)
    (case lIs => k_is)
    (case cIs => k_is)
    (case kIs => k_is)
    (case aSa => k_is)
    (case lSa => k_is)
    (case cSa => k_is)
    (case kSa => k_is)
    (case aNm => k_is)
    (case lNm => k_is)
    (case cNm => k_is)
    (case kNm => k_is)
    (case aLn => k_is)
    (case lLn => k_is)
    (case cLn => k_is)
    (case kLn => k_is)
    (case aDo => k_is)
    (case lDo => k_is)
    (case cDo => k_is)
    (case kDo => k_is)
    (case aRb => k_is)
    (case lRb => k_is)
    (case cRb => k_is)
    (case kRb => k_is)
    (case aLw => k_is)
    (case lLw => k_is)
    (case cLw => k_is)
    (case kLw => k_is)
    (case aWo => k_is)
    (case lWo => k_is)
    (case cWo => k_is)
    (case kWo => k_is)
    (case aMk => k_is)
    (case lMk => k_is)
    (case cMk => k_is)
    (case kMk => k_is)
    (case aDu => k_is)
    (case lDu => k_is)
    (case cDu => k_is)
    (case kDu => k_is)
    (case aDn => k_is)
    (case lDn => k_is)
    (case cDn => k_is)
    (case kDn => k_is)
    (case aLi => k_is)
    (case lLi => k_is)
    (case cLi => k_is)
    (case kLi => k_is)
    (case aLs => k_is)
    (case lLs => k_is)
    (case cLs => k_is)
    (case kLs => k_is)
    (case aRf => k_is)
    (case lRf => k_is)
    (case cRf => k_is)
    (case kRf => k_is)
    (case aSo => k_is)
    (case lSo => k_is)
    (case cSo => k_is)
    (case kSo => k_is)
    (case aHp => k_is)
    (case lHp => k_is)
    (case cHp => k_is)
    (case kHp => k_is)
    (case aAo => k_is)
    (case lAo => k_is)
    (case cAo => k_is)
    (case kAo => k_is)
    (case aBw => k_is)
    (case lBw => k_is)
    (case cBw => k_is)
    (case kBw => k_is)
    (case aBs => k_is)
    (case lBs => k_is)
    (case cBs => k_is)
    (case kBs => k_is)
    (case aTt => k_is)
    (case lTt => k_is)
    (case cTt => k_is)
    (case kTt => k_is)
    (case aTs => k_is)
    (case lTs => k_is)
    (case cTs => k_is)
    (case kTs => k_is)
    (case aPi => k_is)
    (case lPi => k_is)
    (case cPi => k_is)
    (case kPi => k_is)
    (case aPd => k_is)
    (case lPd => k_is)
    (case cPd => k_is)
    (case kPd => k_is)
    (case aL => k_is)
    (case lL => k_is)
    (case cL => k_is)
    (case kL => k_is)
    (case z_abs => k_is)
    (case z_len => k_is)
    (case z_int => k_is)
    (case z_max => k_is)
    (case z_range => k_is)
    (case z_isinstance => k_is)
    (case z_bool => k_is)
    (case z_zip => k_is)
    (case z_tuple => k_is)
    (case z_list => k_is)
    (case z_sum => k_is)
    (case z_all => k_is)
    (case z_reversed => k_is)
    (case z_str => k_is)
    (case z_ValueError => k_is)

