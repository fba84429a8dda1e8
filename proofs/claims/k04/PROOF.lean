import PyProof.Rows.All
import Wide.All
import OpenK.AllK
import Wide.FinOn
import HandS.Call
import HandS.List
import HandS.Wide
import KE.KOpsOwn
import HandS.ForMost
import HandS.Gcd
import HandS.MakeKw
import HandS.IsInst
import HandS.Codes
import HandS.Zip
import KE.KMathG
import HandS.Star
import HandS.Zip0
import HandS.OwnIter
import KE.KDictZip
import HandS.FStr
import HandS.Property
import HandS.OwnEq
import PySem.Challenge.RW_wordworth_k04_table_products
/-! lowest terms, in plain Lean -/
namespace RT
def gg (t b : Int) : Int := ((Nat.gcd t.natAbs b.natAbs : Nat) : Int)
def byv (t b : Int) : Int := if b > 0 then gg t b else -(gg t b)
def top (t b : Int) : Int := t.fdiv (byv t b)
def bot (t b : Int) : Int := b.fdiv (byv t b)
theorem gg_pos {t b : Int} (h : b ≠ 0) : 0 < gg t b := by
  have : 0 < Nat.gcd t.natAbs b.natAbs := Nat.gcd_pos_of_pos_right _ (by omega)
  unfold gg; omega
theorem byv_ne {t b : Int} (h : b ≠ 0) : byv t b ≠ 0 := by
  have := gg_pos (t := t) h
  unfold byv; split <;> omega
theorem gg_dvd_l (t b : Int) : gg t b ∣ t := by
  unfold gg
  exact Int.ofNat_dvd_left.mpr (Nat.gcd_dvd_left _ _)
theorem gg_dvd_r (t b : Int) : gg t b ∣ b := by
  unfold gg
  exact Int.ofNat_dvd_left.mpr (Nat.gcd_dvd_right _ _)
theorem byv_dvd_l (t b : Int) : byv t b ∣ t := by
  unfold byv; split
  · exact gg_dvd_l t b
  · exact Int.neg_dvd.mpr (gg_dvd_l t b)
theorem byv_dvd_r (t b : Int) : byv t b ∣ b := by
  unfold byv; split
  · exact gg_dvd_r t b
  · exact Int.neg_dvd.mpr (gg_dvd_r t b)
theorem byv_natAbs (t b : Int) : (byv t b).natAbs = Nat.gcd t.natAbs b.natAbs := by
  unfold byv gg; split <;> simp
theorem fdiv_of_dvd {a b : Int} (hb : b ≠ 0) (h : b ∣ a) : a.fdiv b * b = a := by
  obtain ⟨k, rfl⟩ := h
  rw [Int.mul_fdiv_cancel_left _ hb, Int.mul_comm]
theorem top_mul {t b : Int} (h : b ≠ 0) : top t b * byv t b = t := fdiv_of_dvd (byv_ne h) (byv_dvd_l t b)
theorem bot_mul {t b : Int} (h : b ≠ 0) : bot t b * byv t b = b := fdiv_of_dvd (byv_ne h) (byv_dvd_r t b)
theorem bot_pos {t b : Int} (h : b ≠ 0) : 0 < bot t b := by
  have e := bot_mul (t := t) h
  have g := gg_pos (t := t) h
  unfold byv at e
  split at e
  · rename_i hb
    rcases Int.lt_trichotomy (bot t b) 0 with z | z | z
    · have := Int.mul_neg_of_neg_of_pos z g; omega
    · rw [z] at e; omega
    · exact z
  · rename_i hb
    rcases Int.lt_trichotomy (bot t b) 0 with z | z | z
    · have := Int.mul_neg_of_neg_of_pos z g
      have h2 : bot t b * -gg t b = -(bot t b * gg t b) := Int.mul_neg _ _
      omega
    · rw [z] at e; omega
    · exact z
theorem cop {t b : Int} (h : b ≠ 0) : Nat.Coprime (top t b).natAbs (bot t b).natAbs := by
  have e1 : (top t b).natAbs * Nat.gcd t.natAbs b.natAbs = t.natAbs := by
    rw [← byv_natAbs, ← Int.natAbs_mul, top_mul h]
  have e2 : (bot t b).natAbs * Nat.gcd t.natAbs b.natAbs = b.natAbs := by
    rw [← byv_natAbs, ← Int.natAbs_mul, bot_mul h]
  have hp : 0 < Nat.gcd t.natAbs b.natAbs := Nat.gcd_pos_of_pos_right _ (by omega)
  have : Nat.gcd ((top t b).natAbs * Nat.gcd t.natAbs b.natAbs) ((bot t b).natAbs * Nat.gcd t.natAbs b.natAbs) = Nat.gcd t.natAbs b.natAbs := by rw [e1, e2]
  rw [Nat.gcd_mul_right] at this
  unfold Nat.Coprime
  exact Nat.eq_of_mul_eq_mul_right hp (by rw [this, Nat.one_mul])
/-- two in lowest terms that are worth the same are the same -/
theorem uniq {n d n' d' : Int} (hd : 0 < d) (hd' : 0 < d') (c : Nat.Coprime n.natAbs d.natAbs) (c' : Nat.Coprime n'.natAbs d'.natAbs) (e : n * d' = n' * d) : n = n' ∧ d = d' := by
  have ea : n.natAbs * d'.natAbs = n'.natAbs * d.natAbs := by rw [← Int.natAbs_mul, e, Int.natAbs_mul]
  have h1 : d.natAbs ∣ d'.natAbs := c.symm.dvd_of_dvd_mul_left ⟨n'.natAbs, by rw [ea, Nat.mul_comm]⟩
  have h2 : d'.natAbs ∣ d.natAbs := c'.symm.dvd_of_dvd_mul_left ⟨n.natAbs, by rw [← ea, Nat.mul_comm]⟩
  have h3 : d.natAbs = d'.natAbs := Nat.dvd_antisymm h1 h2
  have h4 : d = d' := by omega
  subst h4
  exact ⟨Int.eq_of_mul_eq_mul_right (by omega) e, rfl⟩
theorem same {t b t' b' : Int} (h : b ≠ 0) (h' : b' ≠ 0) (e : t * b' = t' * b) : top t b = top t' b' ∧ bot t b = bot t' b' := by
  refine uniq (bot_pos h) (bot_pos h') (cop h) (cop h') ?_
  have e1 := top_mul (t := t) h
  have e2 := bot_mul (t := t) h
  have e3 := top_mul (t := t') h'
  have e4 := bot_mul (t := t') h'
  refine Int.eq_of_mul_eq_mul_right (byv_ne (t := t) h) (Int.eq_of_mul_eq_mul_right (byv_ne (t := t') h') ?_)
  calc top t b * bot t' b' * byv t b * byv t' b' = (top t b * byv t b) * (bot t' b' * byv t' b') := by ac_rfl
    _ = t * b' := by rw [e1, e4]
    _ = t' * b := e
    _ = (top t' b' * byv t' b') * (bot t b * byv t b) := by rw [e3, e2]
    _ = top t' b' * bot t b * byv t b * byv t' b' := by ac_rfl
/-- what is in lowest terms stays -/
theorem keeps {n d : Int} (hd : 0 < d) (c : Nat.Coprime n.natAbs d.natAbs) : top n d = n ∧ bot n d = d := by
  have h : d ≠ 0 := by omega
  refine uniq (bot_pos h) hd (cop h) c ?_
  have e1 := top_mul (t := n) h
  have e2 := bot_mul (t := n) h
  refine Int.eq_of_mul_eq_mul_right (byv_ne (t := n) h) ?_
  calc top n d * d * byv n d = (top n d * byv n d) * d := by ac_rfl
    _ = n * d := by rw [e1]
    _ = n * (bot n d * byv n d) := by rw [e2]
    _ = n * bot n d * byv n d := by ac_rfl
theorem one (t : Int) : top t 1 = t ∧ bot t 1 = 1 := keeps (by decide) (Nat.coprime_one_right _)
/-- worth: the fraction is the same number -/
theorem cross {t b : Int} (h : b ≠ 0) : top t b * b = t * bot t b := by
  have e1 := top_mul (t := t) h
  have e2 := bot_mul (t := t) h
  have e : top t b * b = top t b * (bot t b * byv t b) := by rw [e2]
  have e' : t * bot t b = (top t b * byv t b) * bot t b := by rw [e1]
  rw [e, e']; ac_rfl
theorem top_le {t b : Int} (h : b ≠ 0) : (top t b).natAbs ≤ t.natAbs := by
  have e1 : (top t b).natAbs * (byv t b).natAbs = t.natAbs := by rw [← Int.natAbs_mul, top_mul h]
  have : 0 < (byv t b).natAbs := by have := byv_ne (t := t) h; omega
  rw [← e1]; exact Nat.le_mul_of_pos_right _ this
theorem bot_le {t b : Int} (h : b ≠ 0) : (bot t b).natAbs ≤ b.natAbs := by
  have e1 : (bot t b).natAbs * (byv t b).natAbs = b.natAbs := by rw [← Int.natAbs_mul, bot_mul h]
  have : 0 < (byv t b).natAbs := by have := byv_ne (t := t) h; omega
  rw [← e1]; exact Nat.le_mul_of_pos_right _ this
theorem byv_le {t b : Int} (h : b ≠ 0) : (byv t b).natAbs ≤ b.natAbs := by
  rw [byv_natAbs]; exact Nat.le_of_dvd (by omega) (Nat.gcd_dvd_right _ _)
/-- minus and less -/
theorem neg_cop {n d : Int} (c : Nat.Coprime n.natAbs d.natAbs) : Nat.Coprime (0 - n).natAbs d.natAbs := by
  have : (0 - n).natAbs = n.natAbs := by omega
  rw [this]; exact c
/-- distributive, over lowest terms -/
theorem chain {a b c d e f : Int} (hb : b ≠ 0) (hd : d ≠ 0) (hf : f ≠ 0) :
    top (top (a * e) (b * f) * bot (c * e) (d * f) + top (c * e) (d * f) * bot (a * e) (b * f)) (bot (a * e) (b * f) * bot (c * e) (d * f))
      = top (top (a * d + c * b) (b * d) * e) (bot (a * d + c * b) (b * d) * f) ∧
    bot (top (a * e) (b * f) * bot (c * e) (d * f) + top (c * e) (d * f) * bot (a * e) (b * f)) (bot (a * e) (b * f) * bot (c * e) (d * f))
      = bot (top (a * d + c * b) (b * d) * e) (bot (a * d + c * b) (b * d) * f) := by
  have h1 : b * f ≠ 0 := Int.mul_ne_zero hb hf
  have h2 : d * f ≠ 0 := Int.mul_ne_zero hd hf
  have h3 : b * d ≠ 0 := Int.mul_ne_zero hb hd
  have p1 := bot_pos (t := a * e) h1
  have p2 := bot_pos (t := c * e) h2
  have p3 := bot_pos (t := a * d + c * b) h3
  have x1 := cross (t := a * e) h1
  have x2 := cross (t := c * e) h2
  have x3 := cross (t := a * d + c * b) h3
  generalize top (a * e) (b * f) = n1 at *
  generalize bot (a * e) (b * f) = d1 at *
  generalize top (c * e) (d * f) = n2 at *
  generalize bot (c * e) (d * f) = d2 at *
  generalize top (a * d + c * b) (b * d) = n3 at *
  generalize bot (a * d + c * b) (b * d) = d3 at *
  refine same (Int.mul_ne_zero (by omega) (by omega)) (Int.mul_ne_zero (by omega) hf) ?_
  -- (n1 d2 + n2 d1) (d3 f) = (n3 e) (d1 d2)
  refine Int.eq_of_mul_eq_mul_right h3 (Int.eq_of_mul_eq_mul_right hf ?_)
  have L : (n1 * d2 + n2 * d1) * (d3 * f) * (b * d) * f = ((n1 * (b * f)) * (d2 * d * d3) + (n2 * (d * f)) * (d1 * b * d3)) * f := by
    simp only [Int.add_mul, Int.mul_add]
    congr 1 <;> ac_rfl
  have R : n3 * e * (d1 * d2) * (b * d) * f = (n3 * (b * d)) * (e * d1 * d2 * f) := by ac_rfl
  rw [L, R, x1, x2, x3]
  simp only [Int.add_mul, Int.mul_add]
  congr 1 <;> ac_rfl
end RT

set_option Elab.async false
set_option maxRecDepth 100000
namespace RX
open PySem PySem.Spec PyProof.Rows L2
/-- // by a divisor of either sign, below 2 ^ 9000 -/
def CDivZ (_ j : Int) : Prop := j ≠ 0 ∧ j.natAbs.log2 < 9000
theorem op_fdivZ {X : Cx} : OpR X (binaryOp .FloorDiv) (rI CDivZ fun i j => .int (i.fdiv j)) := opI fun _ _ _ _ _ _ _ hc q => floordiv_int hc.1 q (.inl (PyProof.noPylong_of_log2 hc.2))
theorem divZ {i j : Int} {b : Nat} (h : j ≠ 0) (hb : j.natAbs < 2 ^ b) (h0 : 0 < b) (h9 : b ≤ 9000) : CDivZ i j := ⟨h, Nat.lt_of_lt_of_le (PySem.Flt.log2_lt_of h0 hb) h9⟩
/-- the class at C has the operator op as the def at f -/
structure OpOf (K : PySem.W.Frag) (C : Addr) (x : Str) (f : Addr) : Prop where
  first : PySem.W.selfFirst K C = true
  at_ : PySem.W.findIn K (.ref C) x = some (some (.ref f))
  fn : PySem.W.isFn K (.ref f) = true
/-- a op b, both instances of the class at C: what the operator's def promises; it hands back an object -/
def rOwn (C : Addr) (sp : Sp) (E : XK) : R2 := fun x y H Q => ∃ a b dx dy fs gs, x = .ref a ∧ y = .ref b ∧ H a = some (.ins C dx fs) ∧ H b = some (.ins C dy gs) ∧ sp [.ref a, .ref b] H (fun v H' => (∃ c, v = .ref c) ∧ Q v H') E
def rOwn1 (C : Addr) (sp : Sp) (E : XK) : V → Hp → VK → Prop := fun x H Q => ∃ a dx fs, x = .ref a ∧ H a = some (.ins C dx fs) ∧ sp [.ref a] H Q E
section
variable {X : Cx} {CX : CXT} {k : Nat} {C f : Addr} {fd : FuncData} {ps : List Str} {sp : Sp} {E : XK}
theorem op_own {op : Operator} (O : OpOf X.K C (PySem.dunder op.info.2) f) (F : FnOk X.prog X.w X.K X.mg X.base CX k f fd ps sp) (hr : Room k X.A) (hb : Binds X.K fd ps []) (hx : Passes CX X E) : OpR X (binaryOp op) (rOwn C sp E) := by
  intro pins s σ H x y v u Q I rx ry h
  obtain ⟨a, b, dx, dy, fs, gs, rfl, rfl, ha, hb', hs⟩ := h
  cases rx
  cases ry
  obtain ⟨mA, J, _⟩ := ins_get I.hok ha
  obtain ⟨mB, J', _⟩ := ins_get I.hok hb'
  obtain ⟨od, J, _⟩ := J.look
  obtain ⟨od', J', _⟩ := J'.look
  obtain ⟨m, hF⟩ := I.fr
  refine PySem.W.binop_K hF I.ok.mod.kin J J'.type O.first O.at_ O.fn ?_
  refine thn (run_fn (us := [.ref a, .ref b]) (vs := [.ref a, .ref b]) (dvs := []) (ds := []) F hr hb .nil hx I (.cons rfl (.cons rfl .nil)) hs) fun w' s' hq => ?_
  obtain ⟨z, H', I', rz, ⟨c, ez⟩, q⟩ := hq
  subst ez
  cases rz
  exact ⟨.ref c, H', I', rfl, q⟩
theorem un_own {op : UnaryOp} (h1 : op = .USub) (hs : PySem.W.findIn X.K (.ref C) "__neg__" = some (some (.ref f))) (hf : PySem.W.isFn X.K (.ref f) = true) (F : FnOk X.prog X.w X.K X.mg X.base CX k f fd ps sp) (hr : Room k X.A) (hb : Binds X.K fd ps []) (hx : Passes CX X E) : UnR X (unaryOp op) (rOwn1 C sp E) := by
  subst h1
  intro pins s σ H x v Q I rx h
  obtain ⟨a, dx, fs, rfl, ha, hsp⟩ := h
  cases rx
  obtain ⟨mA, J, _⟩ := ins_get I.hok ha
  obtain ⟨od, J, _⟩ := J.look
  obtain ⟨m, hF⟩ := I.fr
  refine PySem.W.ksp_neg hF I.ok.mod.kin J hs hf ?_
  exact run_fn (us := [.ref a]) (vs := [.ref a]) (dvs := []) (ds := []) F hr hb .nil hx I (.cons rfl .nil) hsp
end
end RX

set_option Elab.async false
set_option maxRecDepth 100000
namespace RX
open PySem L2
def topS (i : Nat) : Stmt := PySem.Challenge.pw_wordworth_k04_table_products.main.body.getD i (.Pass ⟨0, 0, 0, 0⟩)
abbrev sInit : Stmt := inClass (topS 6) 0
abbrev sAdd : Stmt := inClass (topS 6) 1
abbrev sSub : Stmt := inClass (topS 6) 2
abbrev sMul : Stmt := inClass (topS 6) 3
abbrev sNeg : Stmt := inClass (topS 6) 4
/-! ### a Ratio -/
theorem tb : ¬ (("top" : Str) = "bottom") := by decide +kernel
def rf (n d : Int) : List (Str × V) := putF "bottom" (.int d) (putF "top" (.int n) [])
theorem rf_top (n d : Int) : (rf n d).lookup ("top" : Str) = some (.int n) := by
  unfold rf
  rw [lookup_putF, if_neg tb, lookup_putF, if_pos rfl]
theorem rf_bot (n d : Int) : (rf n d).lookup ("bottom" : Str) = some (.int d) := by
  unfold rf
  rw [lookup_putF, if_pos rfl]
theorem rf_no (n d : Int) {m : Str} (h1 : ¬ m = "bottom") (h2 : ¬ m = "top") : (rf n d).lookup m = none := by
  unfold rf
  rw [lookup_putF, if_neg h1, lookup_putF, if_neg h2]
  all_goals rfl
/-- the Ratio n / d stands at p -/
def RatAt (C : Addr) (H : Hp) (p : Addr) (n d : Int) : Prop := ∃ dx, H p = some (.ins C dx (rf n d))
theorem RatAt.same {C : Addr} {H H' : Hp} {p : Addr} {n d : Int} (s : Same H H') (h : RatAt C H p n d) : RatAt C H' p n d := let ⟨dx, e⟩ := h; ⟨dx, s _ _ e⟩
theorem Same.upd {H : Hp} {p : Addr} {o : HO} (h : H p = none) : Same H (upd H p o) := fun b x e => by
  rw [upd_ne (ne_of_none e h)]
  exact e
/-- of at most 4400 bits -/
def Sm (x : Int) : Prop := x.natAbs < 2 ^ 4400
/-- of at most 8900 bits -/
def Md (x : Int) : Prop := x.natAbs < 2 ^ 8900
theorem Sm.mul {x y : Int} (a : Sm x) (b : Sm y) : x.natAbs * y.natAbs < 2 ^ 8800 := by
  have := Nat.mul_lt_mul'' a b
  rw [← Nat.pow_add] at this
  exact this
theorem Sm.w {x y : Int} (a : Sm x) (b : Sm y) : CMulW x y := wide_mul a b (by decide) (by decide) (by decide)
theorem Sm.md {x y : Int} (a : Sm x) (b : Sm y) : Md (x * y) := by
  unfold Md
  rw [Int.natAbs_mul]
  exact Nat.lt_trans (Sm.mul a b) (Nat.pow_lt_pow_right (by decide) (by decide))
/-! ### promises -/
def spInit (C : Addr) : Sp := fun vs H Q _ => ∃ (p dx : Addr) (t b : Int), vs = [.ref p, .int t, .int b] ∧ H p = some (.ins C dx []) ∧ b ≠ 0 ∧ Md b ∧
  ∀ H' : Hp, RatAt C H' p (RT.top t b) (RT.bot t b) → (∀ c o, H c = some o → c ≠ p → H' c = some o) → Q .non H'
/-- of two Ratios: a new one -/
def spBin (C : Addr) (g g' : Int → Int → Int → Int → Int) : Sp := fun vs H Q _ => ∃ (p q : Addr) (n d m e : Int), vs = [.ref p, .ref q] ∧ RatAt C H p n d ∧ RatAt C H q m e ∧ d ≠ 0 ∧ e ≠ 0 ∧ Sm n ∧ Sm d ∧ Sm m ∧ Sm e ∧
  ∀ (r : Addr) (H' : Hp), Same H H' → H r = none → RatAt C H' r (RT.top (g n d m e) (g' n d m e)) (RT.bot (g n d m e) (g' n d m e)) → Q (.ref r) H'
def spAdd (C : Addr) : Sp := spBin C (fun n d m e => n * e + m * d) (fun _ d _ e => d * e)
def spSub (C : Addr) : Sp := spBin C (fun n d m e => n * e - m * d) (fun _ d _ e => d * e)
def spMul (C : Addr) : Sp := spBin C (fun n _ m _ => n * m) (fun _ d _ e => d * e)
def spNeg (C : Addr) : Sp := fun vs H Q _ => ∃ (p : Addr) (n d : Int), vs = [.ref p] ∧ RatAt C H p n d ∧ d ≠ 0 ∧ Sm d ∧
  ∀ (r : Addr) (H' : Hp), Same H H' → H r = none → RatAt C H' r (RT.top (-n) d) (RT.bot (-n) d) → Q (.ref r) H'
structure TxtR (K : PySem.W.Frag) (mg : Str → Option Value) (C : Addr) : Prop where
  cl : Cls K C
  nT : NoAttr K C "top"
  nB : NoAttr K C "bottom"
  mgC : mg "Ratio" = some (.ref C)
  gcd : mg "gcd" = some (.builtin "math.gcd")
section
variable {P : Program} {w : World} {K : PySem.W.Frag} {mg : Str → Option Value} {base : Heap}
theorem scI : FnScope ["self", "top", "bottom", "shared", "by"] ["self", "top", "bottom"] (defScope sInit) := ⟨rfl, rfl, rfl, by decide +kernel, rfl, by decide +kernel, by decide +kernel⟩
theorem ok_init {f C : Addr} {fd : FuncData} (F : FunD K "__init__" "Ratio.__init__" (defArgs sInit) (defBody sInit) (defScope sInit) [.int 1] [] f fd) (T : TxtR K mg C) : FnOk P w K mg base CX0 1 f fd ["self", "top", "bottom"] (spInit C) := by
  refine F.ok scI (fun vs H Q E h => ?_) (fun cdv A outer s H vs Q E hr h => ?_)
  · obtain ⟨p, dx, t, b, rfl, _⟩ := h
    rfl
  · obtain ⟨p, dx, t, b, rfl, hp, hb, hz, k⟩ := h
    refine ⟨_, pss_cons (ps_if (pt_cmpR op_eq (pv 2) pe_int (nomark _)) (pss_one ps_never) pss_nil)
      (pss_cons (ps_set (i := 3) scI.nd rfl (Or.inl rfl) (pe_callBfun cr_gcd (by rfl) T.gcd (pa_cons (pv 1) (pa_cons (pv 2) pa_nil))))
      (pss_cons (ps_set (i := 4) scI.nd rfl (Or.inl rfl) (pe_ifExp (pt_cmpR op_gt (pv 2) pe_int (nomark _)) (pv 3) (pe_un un_neg (pv 3))))
      (pss_cons (ps_fld (pv 0) (pe_op op_fdivZ (pv 1) (pv 4)) rfl)
      (pss_one (ps_fld (pv 0) (pe_op op_fdivZ (pv 2) (pv 4)) rfl))))), ?_⟩
    refine ⟨_, rfl, rfl, _, rfl, ?_⟩
    refine ite2 (fun z => ?_) (fun _ => ?_)
    · have z' := of_decide_eq_true z
      injection z' with z'
      exact absurd z' hb
    refine ⟨_, rfl, _, rfl, t, b, rfl, ?_⟩
    refine ⟨_, rfl, _, _, rfl, rfl, _, rfl, ?_⟩
    have by_ne := RT.byv_ne (t := t) hb
    have by_le := RT.byv_le (t := t) hb
    have hdiv : ∀ x y : Int, y = RT.byv t b → CDivZ x y := fun x y e => by
      subst e
      exact divZ by_ne (Nat.lt_of_le_of_lt by_le hz) (by decide) (by decide)
    have key : (if decide (b > 0) = true then RT.gg t b else -RT.gg t b) = RT.byv t b := by
      unfold RT.byv
      by_cases h0 : b > 0
      · rw [if_pos h0, if_pos (decide_eq_true h0)]
      · rw [if_neg h0, if_neg (by rw [decide_eq_false h0]; exact Bool.false_ne_true)]
    have fin : ∀ x : Int, x = RT.byv t b → Q .non (upd (upd H p (.ins C dx (putF "top" (.int (t.fdiv x)) []))) p (.ins C dx (putF "bottom" (.int (b.fdiv x)) (putF "top" (.int (t.fdiv x)) [])))) := fun x e => by
      subst e
      refine k _ ⟨dx, upd_same⟩ fun c o hc ne => ?_
      rw [upd_ne ne, upd_ne ne]
      exact hc
    refine ite2 (fun z => ?_) (fun z => ?_)
    · rw [if_pos z] at key
      refine ⟨_, rfl, _, rfl, _, rfl, _, _, rfl, rfl, (hdiv t _ key), _, rfl, p, C, dx, [], rfl, hp, T.cl, T.nT, (by show 0 < 1000; decide), ?_⟩
      exact ⟨_, rfl, _, rfl, _, _, rfl, rfl, (hdiv b _ key), _, rfl, p, C, dx, _, rfl, upd_same, T.cl, T.nB, (by show 1 < 1000; decide), fin _ key⟩
    · rw [if_neg z] at key
      refine ⟨_, rfl, _, rfl, _, rfl, _, rfl, _, _, rfl, rfl, (hdiv t _ key), _, rfl, p, C, dx, [], rfl, hp, T.cl, T.nT, (by show 0 < 1000; decide), ?_⟩
      exact ⟨_, rfl, _, rfl, _, _, rfl, rfl, (hdiv b _ key), _, rfl, p, C, dx, _, rfl, upd_same, T.cl, T.nB, (by show 1 < 1000; decide), fin _ key⟩
/-- Ratio(t, b), both written: the rule's own question answered -/
theorem make_in {C : Addr} {H : Hp} {t b : Int} {Q : VK} {E : XK} (hb : b ≠ 0) (hz : Md b) (k : ∀ (r : Addr) (H' : Hp), Same H H' → H r = none → RatAt C H' r (RT.top t b) (RT.bot t b) → Q (.ref r) H') :
    ∀ x dx, H x = none → H dx = none → dx ≠ x → spInit C (.ref x :: ([.int t, .int b] ++ [])) (upd (upd H dx (.own x)) x (.ins C dx [])) (fun v H2 => v = .non ∧ Q (.ref x) H2) E := by
  intro x dx nx nd ne
  exact ⟨x, dx, t, b, rfl, upd_same, hb, hz, fun H' hR kp => ⟨rfl, k x H' (Same.made nx nd kp) nx hR⟩⟩
theorem scA : FnScope ["self", "other", "top"] ["self", "other"] (defScope sAdd) := ⟨rfl, rfl, rfl, by decide +kernel, rfl, by decide +kernel, by decide +kernel⟩
theorem scS : FnScope ["self", "other", "top"] ["self", "other"] (defScope sSub) := ⟨rfl, rfl, rfl, by decide +kernel, rfl, by decide +kernel, by decide +kernel⟩
theorem scM : FnScope ["self", "other"] ["self", "other"] (defScope sMul) := ⟨rfl, rfl, rfl, by decide +kernel, rfl, by decide +kernel, by decide +kernel⟩
theorem scN : FnScope ["self"] ["self"] (defScope sNeg) := ⟨rfl, rfl, rfl, by decide +kernel, rfl, by decide +kernel, by decide +kernel⟩
section
variable {f fI C : Addr} {fd fdI : FuncData} {k : Nat} (T : TxtR K mg C) (M : Mk K C fI) (GI : FnOk P w K mg base CX0 1 fI fdI ["self", "top", "bottom"] (spInit C)) (bI : Binds K fdI ["self", "top", "bottom"] [])
include T M GI bI
theorem ok_add (F : Fun K "__add__" "Ratio.__add__" sAdd f fd) : FnOk P w K mg base CX0 3 f fd ["self", "other"] (spAdd C) := by
  refine F.ok scA (fun vs H Q E h => ?_) (fun cdv A outer s H vs Q E hr h => ?_)
  · obtain ⟨p, q, n, d, m, e, rfl, _⟩ := h
    rfl
  · obtain ⟨p, q, n, d, m, e, rfl, ⟨dx, hp⟩, ⟨dy, hq⟩, hd, he, sn, sd, sm, se, kk⟩ := h
    refine ⟨_, pss_cons (ps_set (i := 2) scA.nd rfl (Or.inl rfl) (pe_op op_add (pe_op op_mulW (pe_fld (pv 0) rfl) (pe_fld (pv 1) rfl)) (pe_op op_mulW (pe_fld (pv 1) rfl) (pe_fld (pv 0) rfl))))
      (pss_one (ps_ret (pe_make M GI hr rfl T.mgC bI .nil pass0 (pa_cons (pv 2) (pa_cons (pe_op op_mulW (pe_fld (pv 0) rfl) (pe_fld (pv 1) rfl)) pa_nil))))), ?_⟩
    refine ⟨_, rfl, p, C, dx, _, _, rfl, hp, T.cl, T.nT, rf_top _ _, _, rfl, q, C, dy, _, _, rfl, hq, T.cl, T.nB, rf_bot _ _, _, _, rfl, rfl, Sm.w sn se,
      _, rfl, q, C, dy, _, _, rfl, hq, T.cl, T.nT, rf_top _ _, _, rfl, p, C, dx, _, _, rfl, hp, T.cl, T.nB, rf_bot _ _, _, _, rfl, rfl, Sm.w sm sd, _, _, rfl, rfl, ?_⟩
    refine ⟨_, rfl, _, rfl, p, C, dx, _, _, rfl, hp, T.cl, T.nB, rf_bot _ _, _, rfl, q, C, dy, _, _, rfl, hq, T.cl, T.nB, rf_bot _ _, _, _, rfl, rfl, Sm.w sd se, ?_⟩
    exact make_in (Int.mul_ne_zero hd he) (Sm.md sd se) kk
theorem ok_sub (F : Fun K "__sub__" "Ratio.__sub__" sSub f fd) : FnOk P w K mg base CX0 3 f fd ["self", "other"] (spSub C) := by
  refine F.ok scS (fun vs H Q E h => ?_) (fun cdv A outer s H vs Q E hr h => ?_)
  · obtain ⟨p, q, n, d, m, e, rfl, _⟩ := h
    rfl
  · obtain ⟨p, q, n, d, m, e, rfl, ⟨dx, hp⟩, ⟨dy, hq⟩, hd, he, sn, sd, sm, se, kk⟩ := h
    refine ⟨_, pss_cons (ps_set (i := 2) scS.nd rfl (Or.inl rfl) (pe_op op_sub (pe_op op_mulW (pe_fld (pv 0) rfl) (pe_fld (pv 1) rfl)) (pe_op op_mulW (pe_fld (pv 1) rfl) (pe_fld (pv 0) rfl))))
      (pss_one (ps_ret (pe_make M GI hr rfl T.mgC bI .nil pass0 (pa_cons (pv 2) (pa_cons (pe_op op_mulW (pe_fld (pv 0) rfl) (pe_fld (pv 1) rfl)) pa_nil))))), ?_⟩
    refine ⟨_, rfl, p, C, dx, _, _, rfl, hp, T.cl, T.nT, rf_top _ _, _, rfl, q, C, dy, _, _, rfl, hq, T.cl, T.nB, rf_bot _ _, _, _, rfl, rfl, Sm.w sn se,
      _, rfl, q, C, dy, _, _, rfl, hq, T.cl, T.nT, rf_top _ _, _, rfl, p, C, dx, _, _, rfl, hp, T.cl, T.nB, rf_bot _ _, _, _, rfl, rfl, Sm.w sm sd, _, _, rfl, rfl, ?_⟩
    refine ⟨_, rfl, _, rfl, p, C, dx, _, _, rfl, hp, T.cl, T.nB, rf_bot _ _, _, rfl, q, C, dy, _, _, rfl, hq, T.cl, T.nB, rf_bot _ _, _, _, rfl, rfl, Sm.w sd se, ?_⟩
    exact make_in (Int.mul_ne_zero hd he) (Sm.md sd se) kk
theorem ok_mul (F : Fun K "__mul__" "Ratio.__mul__" sMul f fd) : FnOk P w K mg base CX0 3 f fd ["self", "other"] (spMul C) := by
  refine F.ok scM (fun vs H Q E h => ?_) (fun cdv A outer s H vs Q E hr h => ?_)
  · obtain ⟨p, q, n, d, m, e, rfl, _⟩ := h
    rfl
  · obtain ⟨p, q, n, d, m, e, rfl, ⟨dx, hp⟩, ⟨dy, hq⟩, hd, he, sn, sd, sm, se, kk⟩ := h
    refine ⟨_, pss_one (ps_ret (pe_make M GI hr rfl T.mgC bI .nil pass0 (pa_cons (pe_op op_mulW (pe_fld (pv 0) rfl) (pe_fld (pv 1) rfl)) (pa_cons (pe_op op_mulW (pe_fld (pv 0) rfl) (pe_fld (pv 1) rfl)) pa_nil)))), ?_⟩
    refine ⟨_, rfl, p, C, dx, _, _, rfl, hp, T.cl, T.nT, rf_top _ _, _, rfl, q, C, dy, _, _, rfl, hq, T.cl, T.nT, rf_top _ _, _, _, rfl, rfl, Sm.w sn sm, ?_⟩
    refine ⟨_, rfl, p, C, dx, _, _, rfl, hp, T.cl, T.nB, rf_bot _ _, _, rfl, q, C, dy, _, _, rfl, hq, T.cl, T.nB, rf_bot _ _, _, _, rfl, rfl, Sm.w sd se, ?_⟩
    exact make_in (Int.mul_ne_zero hd he) (Sm.md sd se) kk
theorem ok_neg (F : Fun K "__neg__" "Ratio.__neg__" sNeg f fd) : FnOk P w K mg base CX0 3 f fd ["self"] (spNeg C) := by
  refine F.ok scN (fun vs H Q E h => ?_) (fun cdv A outer s H vs Q E hr h => ?_)
  · obtain ⟨p, n, d, rfl, _⟩ := h
    rfl
  · obtain ⟨p, n, d, rfl, ⟨dx, hp⟩, hd, sd, kk⟩ := h
    refine ⟨_, pss_one (ps_ret (pe_make M GI hr rfl T.mgC bI .nil pass0 (pa_cons (pe_un un_neg (pe_fld (pv 0) rfl)) (pa_cons (pe_fld (pv 0) rfl) pa_nil)))), ?_⟩
    refine ⟨_, rfl, p, C, dx, _, _, rfl, hp, T.cl, T.nT, rf_top _ _, _, rfl, ?_⟩
    refine ⟨_, rfl, p, C, dx, _, _, rfl, hp, T.cl, T.nB, rf_bot _ _, ?_⟩
    exact make_in hd (Nat.lt_trans sd (Nat.pow_lt_pow_right (by decide) (by decide))) kk
end
end
end RX

set_option Elab.async false
set_option maxRecDepth 100000
namespace RX
open PySem L2
/-! ### the draws -/
abbrev sFeed : Stmt := topS 14
abbrev sDraw : Stmt := topS 15
abbrev sGreat : Stmt := topS 16
/-- the feed stands at a: its cells, the next place, what is left of a great cell, the seed -/
structure FeedIs (H : Hp) (a cl : Addr) (cs : List Int) (i p s : Int) : Prop where
  hA : H a = some (.lst [.ref cl, .int i, .int p, .int s])
  hC : H cl = some (.lst (cs.map V.int))
  ne : cl ≠ a
  i0 : 0 ≤ i
  p0 : 0 ≤ p
  s0 : 0 ≤ s
  s1 : s < 2147483648
  len : cs.length ≤ 63
  nn : ∀ c ∈ cs, 0 ≤ c
def FeedAt (H : Hp) (a cl : Addr) : Prop := ∃ cs i p s, FeedIs H a cl cs i p s
/-- all but what stands at a is as it was -/
def But (a : Addr) (H H' : Hp) : Prop := ∀ b o, H b = some o → b ≠ a → H' b = some o
theorem But.refl (a : Addr) (H : Hp) : But a H H := fun _ _ h _ => h
theorem But.trans {a : Addr} {H H1 H2 : Hp} (x : But a H H1) (y : But a H1 H2) : But a H H2 := fun b o h n => y b o (x b o h n) n
theorem Same.but {a : Addr} {H H1 : Hp} (x : Same H H1) : But a H H1 := fun b o h _ => x b o h
theorem But.upd (a : Addr) (H : Hp) (o : HO) : But a H (L2.upd H a o) := fun b o' h n => by rw [upd_ne n]; exact h
theorem FeedIs.same {H H' : Hp} {a cl : Addr} {cs : List Int} {i p s : Int} (h : FeedIs H a cl cs i p s) (x : Same H H') : FeedIs H' a cl cs i p s :=
  ⟨x _ _ h.hA, x _ _ h.hC, h.ne, h.i0, h.p0, h.s0, h.s1, h.len, h.nn⟩
theorem FeedAt.same {H H' : Hp} {a cl : Addr} (h : FeedAt H a cl) (x : Same H H') : FeedAt H' a cl := let ⟨cs, i, p, s, f⟩ := h; ⟨cs, i, p, s, f.same x⟩
/-- the feed's list written anew -/
theorem FeedIs.put {H : Hp} {a cl : Addr} {cs : List Int} {i p s i' p' s' : Int} (h : FeedIs H a cl cs i p s) (i0 : 0 ≤ i') (p0 : 0 ≤ p') (s0 : 0 ≤ s') (s1 : s' < 2147483648) :
    FeedIs (upd H a (.lst [.ref cl, .int i', .int p', .int s'])) a cl cs i' p' s' :=
  ⟨upd_same, by rw [upd_ne h.ne]; exact h.hC, h.ne, i0, p0, s0, s1, h.len, h.nn⟩
def spFeed (K : PySem.W.Frag) : Sp := fun vs H Q _ => ∃ (a : Addr) (ns : List Int), vs = [.ref a] ∧ SqL K H a (ns.map V.int) ∧ ns.length ≤ 63 ∧ ∀ (r cl : Addr) (H' : Hp), Same H H' → H r = none → H cl = none → FeedAt H' r cl → Q (.ref r) H'
def spDraw : Sp := fun vs H Q _ => ∃ (a cl : Addr) (m : Int), vs = [.ref a, .int m] ∧ FeedAt H a cl ∧ 0 < m ∧ m < 1073741824 ∧ ∀ (r : Int) (H' : Hp), 0 ≤ r → r < m → FeedAt H' a cl → But a H H' → Q (.int r) H'
def spGreat : Sp := fun vs H Q _ => ∃ (a cl : Addr) (m : Int), vs = [.ref a, .int m] ∧ FeedAt H a cl ∧ 0 ≤ m ∧ m ≤ 100 ∧ ∀ (r : Int) (H' : Hp), 0 ≤ r → r < 100000 ^ m.toNat → FeedAt H' a cl → But a H H' → Q (.int r) H'
structure TxtL (mg : Str → Option Value) : Prop where
  abs : mg "abs" = none
  len : mg "len" = none
  int : mg "int" = none
  max : mg "max" = none
  range : mg "range" = none
  isi : mg "isinstance" = none
  bool : mg "bool" = none
section
variable {P : Program} {w : World} {K : PySem.W.Frag} {mg : Str → Option Value} {base : Heap}
theorem scFe : FnScope ["script", "cell"] ["script"] (defScope sFeed) := ⟨rfl, rfl, rfl, by decide +kernel, rfl, by decide +kernel, by decide +kernel⟩
theorem cut63 (xs : List V) (h : xs.length ≤ 63) : cutV xs none (some 63) = xs := by
  unfold cutV
  rw [show HT.sIx xs.length xs.length (some 63) = min 63 xs.length from HT.sIx_nat xs.length xs.length 63, HT.sIx_none, Nat.min_eq_right h, List.drop_zero, Nat.sub_zero]
  exact List.take_length
theorem ok_feed {f : Addr} {fd : FuncData} (F : Fun K "_law_feed" "_law_feed" sFeed f fd) (T : TxtL mg) : FnOk P w K mg base CX0 1 f fd ["script"] (spFeed K) := by
  refine F.ok scFe (fun vs H Q E h => ?_) (fun cdv A outer s H vs Q E hr h => ?_)
  · obtain ⟨a, ns, rfl, _⟩ := h
    rfl
  · obtain ⟨a, ns, rfl, hS, hl, k⟩ := h
    refine ⟨_, pss_one (ps_ret (pe_lst (pa_cons (pe_lc (own := [("cell", 1)]) (g := gName 1) (tt := tYes) rfl scFe.nd (pi_list (pe_slice sl_list (pv 0) po_none (po_some pe_int))) (blkOk_by (N := ["script", "cell"]) (sc := defScope sFeed) (by decide +kernel))
        (fun _ _ _ _ _ => pg_name (i := 1) scFe.nd rfl (Or.inl rfl)) (fun _ _ _ _ _ => pts_nil) (fun _ _ _ _ _ => pe_callB call_abs (by rfl) T.abs (by decide +kernel) (pa_cons (pv 1) pa_nil)))
      (pa_cons pe_int (pa_cons pe_int (pa_cons (pe_op op_add pe_int (pe_callB call_len_seq (by rfl) T.len PySem.boot_len (pa_cons (pv 0) pa_nil))) pa_nil)))))), ?_⟩
    refine ⟨.ref a, rfl, 63, rfl, a, ns.map V.int, rfl, hS, fun c nc => ?_⟩
    rw [cut63 _ (by rw [List.length_map]; exact hl)]
    have s1 : Same H (upd H c (.lst (ns.map V.int))) := Same.upd nc
    refine ⟨c, rfl, ⟨_, SqL.of upd_same⟩, fun D nD => ?_⟩
    have ncD : c ≠ D := ne_of_none upd_same nD
    have nD0 : H D = none := s1.free nD
    refine lc_list (K := K) (a := c) (xs := ns.map V.int) (fun i H2 => Same H H2 ∧ H2 c = some (.lst (ns.map V.int)) ∧ H2 D = some (.lst (((ns.take i).map fun z => if z < 0 then -z else z).map V.int))) ⟨s1.trans (Same.upd nD), by rw [upd_ne ncD]; exact upd_same, upd_same⟩ (fun i H2 _ h => SqL.of h.2.1) ?_ ?_
    · rintro i x H2 hi ⟨s2, hq, hD⟩
      obtain ⟨z, hz, rfl⟩ : ∃ z, ns[i]? = some z ∧ V.int z = x := by
        rw [List.getElem?_map] at hi
        cases e : ns[i]? with
        | none => rw [e] at hi; cases hi
        | some z => rw [e] at hi; exact ⟨z, rfl, Option.some.inj hi⟩
      have hi63 : i < ns.length := (List.getElem?_eq_some_iff.mp hz).1
      refine ⟨rfl, ?_⟩
      refine ⟨_, rfl, z, rfl, _, hD, ?_, ?_⟩
      · rw [List.length_map, List.length_map, List.length_take]
        exact Nat.lt_of_le_of_lt (Nat.min_le_left _ _) (small1000 (by omega))
      · refine ⟨fun b o e => ?_, by rw [upd_ne ncD]; exact hq, ?_⟩
        · rw [upd_ne (ne_of_none e nD0)]
          exact s2 _ _ e
        · rw [upd_same, List.take_add_one, hz, List.map_append, List.map_append]
          rfl
    · rintro H2 ⟨s2, hq, hD⟩
      rw [List.length_map, List.take_length] at hD
      refine ⟨_, rfl, a, _, rfl, .inl (s2.seq hS), _, _, rfl, rfl, (by show 4 ≤ sizeLine; decide), fun r nr => ?_⟩
      have nDr : D ≠ r := ne_of_none hD nr
      refine k r D _ (s2.trans (Same.upd nr)) (s2.free nr) nD0 ⟨ns.map fun z => if z < 0 then -z else z, 0, 0, _, upd_same, by rw [upd_ne nDr]; exact hD, nDr, by omega, by omega, ?_, ?_, ?_, ?_⟩
      · rw [List.length_map]; omega
      · rw [List.length_map]; omega
      · rw [List.length_map]; exact hl
      · intro c hc
        obtain ⟨z, _, rfl⟩ := List.mem_map.mp hc
        show (0 : Int) ≤ if z < 0 then -z else z
        split <;> omega
theorem scDr : FnScope ["feed", "limit", "cells", "cell", "found"] ["feed", "limit"] (defScope sDraw) := ⟨rfl, rfl, rfl, by decide +kernel, rfl, by decide +kernel, by decide +kernel⟩
theorem ok_draw {f : Addr} {fd : FuncData} (F : Fun K "_law_draw" "_law_draw" sDraw f fd) (T : TxtL mg) : FnOk P w K mg base CX0 1 f fd ["feed", "limit"] spDraw := by
  refine F.ok scDr (fun vs H Q E h => ?_) (fun cdv A outer s H vs Q E hr h => ?_)
  · obtain ⟨a, cl, m, rfl, _⟩ := h
    rfl
  · obtain ⟨a, cl, m, rfl, ⟨cs, i, p, s, f0⟩, hm, hm2, k⟩ := h
    refine ⟨_, pss_cons (ps_set (i := 2) scDr.nd rfl (.inl rfl) (pe_ix ix_list (pv 0) pe_int (fun _ _ => rfl)))
      (C8.pss_cut (ps_if (PW.pt (pw_and (pt_cmpR op_eq (pe_ix ix_list (pv 0) pe_int (fun _ _ => rfl)) pe_int (nomark _)) (pw_and1 (pt_cmpR op_lt (pe_ix ix_list (pv 0) pe_int (fun _ _ => rfl)) (pe_callB call_len_seq (by rfl) T.len PySem.boot_len (pa_cons (pv 2) pa_nil)) (nomark _)))))
        (pss_cons (ps_set (i := 3) scDr.nd rfl (.inl rfl) (pe_ix ix_list (pv 2) (pe_ix ix_list (pv 0) pe_int (fun _ _ => rfl)) (fun _ _ => rfl)))
        (pss_cons (ps_asg (pe_op op_add (pe_ix ix_list (pv 0) pe_int (fun _ _ => rfl)) pe_int) (pg_sub (pv 0) pe_int set_list))
        (pss_one (ps_if (pt_cmpR op_ge (pv 3) (pe_op op_pow pe_int pe_int) (nomark _))
          (pss_one (ps_asg (pv 3) (pg_sub (pv 0) pe_int set_list)))
          (pss_one (ps_asg (pe_op op_mod (pe_callTy call_int1 (by rfl) T.int (by decide +kernel) (pa_cons (pe_op op_add (pe_op op_add (pe_op op_mul (pe_ix ix_list (pv 0) pe_int (fun _ _ => rfl)) pe_int) (pe_op op_mul (pv 3) pe_int)) pe_int) pa_nil)) pe_int) (pg_sub (pv 0) pe_int set_list)))))))
        pss_nil)
      (C8.pss_cut (ps_if (pt_cmpR op_gt (pe_ix ix_list (pv 0) pe_int (fun _ _ => rfl)) pe_int (nomark _))
        (pss_cons (ps_set (i := 4) scDr.nd rfl (.inl rfl) (pe_op op_mod (pe_callTy call_int1 (by rfl) T.int (by decide +kernel) (pa_cons (pe_ix ix_list (pv 0) pe_int (fun _ _ => rfl)) pa_nil)) (pv 1)))
        (pss_cons (ps_asg (pe_op op_fdiv (pe_ix ix_list (pv 0) pe_int (fun _ _ => rfl)) (pv 1)) (pg_sub (pv 0) pe_int set_list))
        (pss_one (ps_ret (pv 4)))))
        pss_nil)
      (pss_cons (ps_asg (pe_op op_mod (pe_callTy call_int1 (by rfl) T.int (by decide +kernel) (pa_cons (pe_op op_add (pe_op op_mul (pe_ix ix_list (pv 0) pe_int (fun _ _ => rfl)) pe_int) pe_int) pa_nil)) pe_int) (pg_sub (pv 0) pe_int set_list))
      (pss_one (ps_ret (pe_op op_mod (pe_callTy call_int1 (by rfl) T.int (by decide +kernel) (pa_cons (pe_op op_add (pe_op op_fdiv (pe_op op_mul (pe_ix ix_list (pv 0) pe_int (fun _ _ => rfl)) (pe_ix ix_list (pv 0) pe_int (fun _ _ => rfl))) pe_int) (pe_op op_fdiv (pe_ix ix_list (pv 0) pe_int (fun _ _ => rfl)) pe_int)) pa_nil)) (pv 1))))))), ?_⟩
    -- cells = feed[0]
    refine ⟨_, rfl, a, _, 0, _, rfl, rfl, SqL.of f0.hA, rfl, ?_⟩
    -- behind the first if: the feed again
    refine ⟨fun σ' H' => ∃ x2 x3 x4, σ' = [some (.ref a), some (.int m), x2, x3, x4] ∧ FeedAt H' a cl ∧ But a H H', ?_, ?_⟩
    · refine ⟨_, rfl, a, _, 2, _, rfl, rfl, SqL.of f0.hA, rfl, rfl, _, rfl, ?_⟩
      refine ite2 (fun _ => ?_) (fun _ => ?_)
      · refine ⟨_, rfl, a, _, 1, _, rfl, rfl, SqL.of f0.hA, rfl, _, rfl, cl, _, rfl, .inl (SqL.of f0.hC), _, _, rfl, rfl, _, rfl, ?_⟩
        refine ite2 (fun z => ?_) (fun _ => ?_)
        · have z := of_decide_eq_true z
          rw [List.length_map] at z
          have hi : (i.toNat : Int) = i := Int.toNat_of_nonneg f0.i0
          have hlt : i.toNat < cs.length := by omega
          have hc : (cs.map V.int)[i.toNat]? = some (V.int cs[i.toNat]) := by
            rw [List.getElem?_map, List.getElem?_eq_getElem hlt]
            rfl
          have c0 : 0 ≤ cs[i.toNat] := f0.nn _ (List.getElem_mem hlt)
          generalize hcv : cs[i.toNat] = cv at hc c0
          have f1 := f0.put (i' := i + 1) (by have := f0.i0; omega) f0.p0 f0.s0 f0.s1
          refine ⟨_, rfl, _, rfl, a, _, 1, _, rfl, rfl, SqL.of f0.hA, rfl, cl, _, i, _, rfl, rfl, SqL.of f0.hC, at_of hi.symm hc, ?_⟩
          refine ⟨_, rfl, a, _, 1, _, rfl, rfl, SqL.of f0.hA, rfl, _, _, rfl, rfl, _, rfl, a, _, _, 1, rfl, rfl, f0.hA, rfl, ?_⟩
          refine ⟨_, rfl, _, _, rfl, rfl, (by show (0 : Int) ≤ 18 ∧ (18 : Int) ≤ 1000000 ∧ (10 : Int).natAbs < 2 ^ 64; decide), _, _, rfl, rfl, _, rfl, ?_⟩
          refine ite2 (fun _ => ?_) (fun _ => ?_)
          · refine ⟨_, rfl, _, rfl, a, _, _, 2, rfl, rfl, upd_same, rfl, ?_⟩
            exact ⟨_, _, _, rfl, ⟨cs, _, _, _, f1.put (i' := i + 1) (p' := cv) (s' := s) (by have := f0.i0; omega) c0 f0.s0 f0.s1⟩, (But.upd a H _).trans (But.upd a _ _)⟩
          · refine ⟨_, rfl, a, _, 3, _, rfl, rfl, SqL.of upd_same, rfl, _, _, rfl, rfl, .inr (by decide), _, rfl, _, _, rfl, rfl, .inr (by decide), _, _, rfl, rfl, _, _, rfl, rfl, .inl ⟨_, rfl, _, _, rfl, rfl, (by show (0 : Int) < 2147483647; decide), _, rfl, a, _, _, 3, rfl, rfl, upd_same, rfl, ?_⟩⟩
            refine ⟨_, _, _, rfl, ⟨cs, _, _, _, f1.put (i' := i + 1) (p' := p) (by have := f0.i0; omega) f0.p0 (Int.emod_nonneg _ (by decide)) (Int.lt_trans (Int.emod_lt_of_pos _ (by decide)) (by decide))⟩, (But.upd a H _).trans (But.upd a _ _)⟩
        · exact ⟨_, _, _, rfl, ⟨cs, i, p, s, f0⟩, But.refl a H⟩
      · exact ⟨_, _, _, rfl, ⟨cs, i, p, s, f0⟩, But.refl a H⟩
    · rintro σ' H1 ⟨x2, x3, x4, rfl, ⟨cs, i, p, s, f1⟩, b1⟩
      refine ⟨fun σ' H' => ∃ x2 x3 x4, σ' = [some (.ref a), some (.int m), x2, x3, x4] ∧ FeedAt H' a cl ∧ But a H H', ?_, ?_⟩
      · refine ⟨_, rfl, a, _, 2, _, rfl, rfl, SqL.of f1.hA, rfl, _, _, rfl, rfl, _, rfl, ?_⟩
        refine ite2 (fun z => ?_) (fun _ => ?_)
        · refine ⟨_, rfl, a, _, 2, _, rfl, rfl, SqL.of f1.hA, rfl, .inl ⟨_, rfl, _, rfl, _, _, rfl, rfl, hm, ?_⟩⟩
          refine ⟨_, rfl, a, _, 2, _, rfl, rfl, SqL.of f1.hA, rfl, _, rfl, _, _, rfl, rfl, ⟨hm, hm2⟩, _, rfl, a, _, _, 2, rfl, rfl, f1.hA, rfl, ?_⟩
          refine ⟨_, rfl, ?_⟩
          exact k _ _ (Int.emod_nonneg _ (by omega)) (Int.emod_lt_of_pos _ hm) ⟨cs, _, _, _, f1.put (i' := i) (s' := s) f1.i0 (Int.ediv_nonneg f1.p0 (by omega)) f1.s0 f1.s1⟩ (b1.trans (But.upd a _ _))
        · exact ⟨_, _, _, rfl, ⟨cs, i, p, s, f1⟩, b1⟩
      · rintro σ' H2 ⟨x2, x3, x4, rfl, ⟨cs, i, p, s, f2⟩, b2⟩
        refine ⟨_, rfl, a, _, 3, _, rfl, rfl, SqL.of f2.hA, rfl, _, _, rfl, rfl, .inr (by decide), _, _, rfl, rfl, .inl ⟨_, rfl, _, _, rfl, rfl, (by show (0 : Int) < 2147483629; decide), _, rfl, a, _, _, 3, rfl, rfl, f2.hA, rfl, ?_⟩⟩
        have e0 := Int.emod_nonneg (s * 16807 + 12345) (show (2147483629 : Int) ≠ 0 by decide)
        have e1 := Int.emod_lt_of_pos (s * 16807 + 12345) (show (0 : Int) < 2147483629 by decide)
        have f3 := f2.put (i' := i) (p' := p) (s' := (s * 16807 + 12345) % 2147483629) f2.i0 f2.p0 e0 (by omega)
        refine ⟨_, rfl, a, _, 3, _, rfl, rfl, SqL.of upd_same, rfl, _, rfl, a, _, 3, _, rfl, rfl, SqL.of upd_same, rfl, _, _, rfl, rfl, .inl ⟨by omega, by omega⟩, _, _, rfl, rfl, ⟨by decide, by decide⟩,
          _, rfl, a, _, 3, _, rfl, rfl, SqL.of upd_same, rfl, _, _, rfl, rfl, ⟨by decide, by decide⟩, _, _, rfl, rfl, .inl ⟨_, rfl, _, rfl, _, _, rfl, rfl, hm, ?_⟩⟩
        exact k _ _ (Int.emod_nonneg _ (by omega)) (Int.emod_lt_of_pos _ hm) ⟨cs, _, _, _, f3⟩ (b2.trans (But.upd a _ _))
end
end RX

set_option Elab.async false
set_option maxRecDepth 100000
namespace RX
open PySem L2
abbrev sPair : Stmt := topS 17
/-- a pair of ints stands at p -/
def PairAt (H : Hp) (p : Addr) (n d : Int) : Prop := H p = some (.tup [.int n, .int d])
theorem PairAt.same {H H' : Hp} {p : Addr} {n d : Int} (h : PairAt H p n d) (s : Same H H') : PairAt H' p n d := s _ _ h
theorem PairAt.t {K : PySem.W.Frag} {H : Hp} {p : Addr} {n d : Int} (h : PairAt H p n d) : SqT K H p [.int n, .int d] := SqT.of h
def spPair : Sp := fun vs H Q _ => ∃ (t b : Int), vs = [.int t, .int b] ∧ b ≠ 0 ∧ Md b ∧ ∀ (r : Addr) (H' : Hp), Same H H' → H r = none → PairAt H' r (RT.top t b) (RT.bot t b) → Q (.ref r) H'
theorem But.free {a cl : Addr} {H H1 : Hp} {r : Addr} (x : But a H H1) (h : H1 r = none) (f : FeedAt H1 a cl) : H r = none := by
  cases q : H r with
  | none => rfl
  | some o =>
    by_cases e : r = a
    · subst e
      obtain ⟨cs, i, p, s, f⟩ := f
      rw [f.hA] at h
      cases h
    · rw [x r o q e] at h
      cases h
/-- a def of the law that is called by its name -/
structure CalN (P : Program) (w : World) (K : PySem.W.Frag) (mg : Str → Option Value) (base : Heap) (x : Str) (k : Nat) (ps : List Str) (sp : Sp) (f : Addr) (fd : FuncData) : Prop where
  G : FnOk P w K mg base CX0 k f fd ps sp
  m : mg x = some (.ref f)
  kp : PySem.W.keepIn K (.ref f) = true
  b : Binds K fd ps []
/-- of at most 500 bits -/
def Ti (x : Int) : Prop := x.natAbs < 2 ^ 500
theorem pw {a b : Nat} (h : a ≤ b) {x : Nat} (hx : x < 2 ^ a) : x < 2 ^ b := Nat.lt_of_lt_of_le hx (Nat.pow_le_pow_right (by decide) h)
theorem mulB {x y : Int} {a b : Nat} (ha : x.natAbs < 2 ^ a) (hb : y.natAbs < 2 ^ b) : (x * y).natAbs < 2 ^ (a + b) := wide_lt ha hb
theorem addB {x y : Int} {a : Nat} (ha : x.natAbs < 2 ^ a) (hb : y.natAbs < 2 ^ a) : (x + y).natAbs < 2 ^ (a + 1) := by
  have := Int.natAbs_add_le x y
  rw [Nat.pow_succ]
  omega
theorem topB {t b : Int} {a : Nat} (h : b ≠ 0) (ha : t.natAbs < 2 ^ a) : (RT.top t b).natAbs < 2 ^ a := Nat.lt_of_le_of_lt (RT.top_le h) ha
theorem botB {t b : Int} {a : Nat} (h : b ≠ 0) (ha : b.natAbs < 2 ^ a) : (RT.bot t b).natAbs < 2 ^ a := Nat.lt_of_le_of_lt (RT.bot_le h) ha
theorem botN {t b : Int} (h : b ≠ 0) : RT.bot t b ≠ 0 := by have := RT.bot_pos (t := t) h; omega
section
variable {P : Program} {w : World} {K : PySem.W.Frag} {mg : Str → Option Value} {base : Heap}
theorem scG : FnScope ["feed", "parts", "found", "k"] ["feed", "parts"] (defScope sGreat) := ⟨rfl, rfl, rfl, by decide +kernel, rfl, by decide +kernel, by decide +kernel⟩
theorem ok_great {f fD : Addr} {fd fdD : FuncData} (F : Fun K "_law_great" "_law_great" sGreat f fd) (T : TxtL mg) (GD : FnOk P w K mg base CX0 1 fD fdD ["feed", "limit"] spDraw) (mD : mg "_law_draw" = some (.ref fD)) (kD : PySem.W.keepIn K (.ref fD) = true) (bD : Binds K fdD ["feed", "limit"] []) :
    FnOk P w K mg base CX0 2 f fd ["feed", "parts"] spGreat := by
  refine F.ok scG (fun vs H Q E h => ?_) (fun cdv A outer s H vs Q E hr h => ?_)
  · obtain ⟨a, cl, m, rfl, _⟩ := h
    rfl
  · obtain ⟨a, cl, m, rfl, hF, h0, h1, k⟩ := h
    refine ⟨_, pss_cons (ps_set (i := 2) scG.nd rfl (.inl rfl) pe_int)
      (pss_cons (ps_for PassesOwn.never rfl (pi_range1 rfl T.range (pa_cons (pv 1) pa_nil)) (pg_name (i := 3) scG.nd rfl (.inl rfl))
        (pss_one (ps_set (i := 2) scG.nd rfl (.inl rfl) (pe_op op_add (pe_op op_mul (pv 2) pe_int) (pe_call GD hr rfl mD kD bD .nil pass0 (pa_cons (pv 0) (pa_cons pe_int pa_nil)))))))
      (pss_one (ps_ret (pv 2)))), ?_⟩
    refine ⟨_, rfl, m, rfl, by omega, by omega, for_range (n := m.toNat) (fun i σ H' => ∃ (x : Int) (y : Option V), σ = [some (.ref a), some (.int m), some (.int x), y] ∧ 0 ≤ x ∧ x < 100000 ^ i ∧ FeedAt H' a cl ∧ But a H H')
      ⟨0, none, rfl, by omega, by decide, hF, But.refl a H⟩ ?_ ?_⟩
    · rintro i σ H' hi ⟨x, y, rfl, x0, x1, f1, b1⟩
      refine ⟨_, rfl, _, _, rfl, rfl, .inr (by decide), _, rfl, a, cl, _, rfl, f1, by decide, by decide, fun r H2 r0 r1 f2 b2 => ?_⟩
      refine ⟨_, _, rfl, rfl, _, _, rfl, by omega, ?_, f2, b1.trans b2⟩
      rw [Int.pow_succ]
      omega
    · rintro σ H' ⟨x, y, rfl, x0, x1, f1, b1⟩
      exact ⟨_, rfl, k x H' x0 x1 f1 b1⟩
theorem scP : FnScope ["above", "below", "one", "two"] ["above", "below"] (defScope sPair) := ⟨rfl, rfl, rfl, by decide +kernel, rfl, by decide +kernel, by decide +kernel⟩
theorem ok_pair {f : Addr} {fd : FuncData} (F : Fun K "_law_pair" "_law_pair" sPair f fd) (T : TxtL mg) : FnOk P w K mg base CX0 1 f fd ["above", "below"] spPair := by
  refine F.ok scP (fun vs H Q E h => ?_) (fun cdv A outer s H vs Q E hr h => ?_)
  · obtain ⟨t, b, rfl, _⟩ := h
    rfl
  · obtain ⟨t, b, rfl, hb, hz, k⟩ := h
    refine ⟨_, pss_cons (ps_set (i := 2) scP.nd rfl (.inl rfl) (pe_callB call_abs (by rfl) T.abs (by decide +kernel) (pa_cons (pv 0) pa_nil)))
      (pss_cons (ps_set (i := 3) scP.nd rfl (.inl rfl) (pe_callB call_abs (by rfl) T.abs (by decide +kernel) (pa_cons (pv 1) pa_nil)))
      (pss_cons (ps_while PassesOwn.never (pt_cmpR op_gt (pv 3) pe_int (nomark _))
        (pss_one (ps_par (i := 2) (j := 3) (by rfl) scP.nd rfl rfl (by decide) rfl rfl (pa_cons (pv 3) (pa_cons (pe_op op_mod (pe_callTy call_int1 (by rfl) T.int (by decide +kernel) (pa_cons (pv 2) pa_nil)) (pv 3)) pa_nil)) (by rfl))))
      (C8.pss_cut (ps_if (pt_cmpR op_lt (pv 1) pe_int (nomark _)) (pss_one (ps_set (i := 2) scP.nd rfl (.inl rfl) (pe_op op_sub pe_int (pv 2)))) pss_nil)
      (pss_one (ps_ret (pe_tup (pa_cons (pe_op op_fdivZ (pv 0) (pv 2)) (pa_cons (pe_op op_fdivZ (pv 1) (pv 2)) pa_nil)))))))), ?_⟩
    refine ⟨_, rfl, t, rfl, _, rfl, b, rfl, ?_⟩
    have ab : ∀ x : Int, 0 ≤ (if x < 0 then -x else x) ∧ (if x < 0 then -x else x).natAbs = x.natAbs := fun x => by split <;> omega
    refine while_by (fun σ H' => ∃ x y : Int, σ = [some (.int t), some (.int b), some (.int x), some (.int y)] ∧ H' = H ∧ 0 ≤ x ∧ 0 ≤ y ∧ Nat.gcd x.natAbs y.natAbs = Nat.gcd t.natAbs b.natAbs)
      (fun σ _ => match σ with | [_, _, _, some (.int y)] => y.toNat | _ => 0)
      ⟨_, _, rfl, rfl, (ab t).1, (ab b).1, by rw [(ab t).2, (ab b).2]⟩ ?_ (fun σ H' R R' h q => by
        obtain ⟨v, hv, i, j, e1, e2, kk, e3, q⟩ := q
        exact ⟨v, hv, i, j, e1, e2, kk, e3, h _ _ q⟩)
    rintro σ H' ⟨x, y, rfl, rfl, x0, y0, g⟩
    refine ⟨_, rfl, _, _, rfl, rfl, _, rfl, ?_⟩
    refine ite2 (fun z => ?_) (fun z => ?_)
    · have z := of_decide_eq_true z
      refine ⟨_, rfl, _, rfl, .inl ⟨_, rfl, _, rfl, _, _, rfl, rfl, z, ?_⟩⟩
      have m0 := Int.emod_nonneg x (show y ≠ 0 by omega)
      have m1 := Int.emod_lt_of_pos x z
      refine ⟨_, _, rfl, ⟨_, _, rfl, rfl, y0, m0, ?_⟩, ?_⟩
      · rw [Nat.gcd_comm, ← g]
        have : (x % y).natAbs = x.natAbs % y.natAbs := by
          rw [Int.natAbs_emod_of_nonneg x0]
        rw [this, Nat.gcd_comm x.natAbs, Nat.gcd_rec y.natAbs x.natAbs]
      · show (x % y).toNat < y.toNat
        omega
    · have z : ¬ y > 0 := fun h => z (decide_eq_true h)
      have y00 : y = 0 := by omega
      subst y00
      have hg : x = RT.gg t b := by
        unfold RT.gg
        rw [← g]
        show x = ((Nat.gcd x.natAbs 0 : Nat) : Int)
        rw [Nat.gcd_zero_right]
        omega
      refine ⟨fun σ' H2 => σ' = [some (.int t), some (.int b), some (.int (RT.byv t b)), some (.int 0)] ∧ H2 = H', ?_, ?_⟩
      · refine ⟨_, rfl, _, _, rfl, rfl, _, rfl, ?_⟩
        refine ite2 (fun z => ?_) (fun z => ?_)
        · have z := of_decide_eq_true z
          refine ⟨_, rfl, _, _, rfl, rfl, ?_, rfl⟩
          have e : (0 : Int) - x = RT.byv t b := by
            unfold RT.byv
            rw [if_neg (by omega), hg]
            omega
          show [some (V.int t), some (V.int b), some (V.int (0 - x)), some (V.int 0)] = _
          rw [e]
        · have z : ¬ b < 0 := fun h => z (decide_eq_true h)
          refine ⟨?_, rfl⟩
          have e : x = RT.byv t b := by
            unfold RT.byv
            rw [if_pos (by omega), hg]
          rw [e]
      · rintro σ' H' ⟨rfl, rfl⟩
        have hdiv : ∀ x : Int, CDivZ x (RT.byv t b) := fun x => divZ (RT.byv_ne hb) (Nat.lt_of_le_of_lt (RT.byv_le hb) hz) (by decide) (by decide)
        refine ⟨_, rfl, _, rfl, _, _, rfl, rfl, hdiv t, _, rfl, _, rfl, _, _, rfl, rfl, hdiv b, (by show 2 ≤ sizeLine; decide), fun r nr => ?_⟩
        exact k r _ (Same.upd nr) nr upd_same
end
end RX

set_option Elab.async false
set_option maxRecDepth 100000
namespace RX
open PySem L2
abbrev sSum : Stmt := topS 18
abbrev sBy : Stmt := topS 19
/-- of two pairs -/
def spBinP (g g' : Int → Int → Int → Int → Int) : Sp := fun vs H Q _ => ∃ (p q : Addr) (n d m e : Int), vs = [.ref p, .ref q] ∧ PairAt H p n d ∧ PairAt H q m e ∧ d ≠ 0 ∧ e ≠ 0 ∧ Md n ∧ Md d ∧ Md m ∧ Md e ∧ Md (d * e) ∧
  ∀ (r : Addr) (H' : Hp), Same H H' → H r = none → PairAt H' r (RT.top (g n d m e) (g' n d m e)) (RT.bot (g n d m e) (g' n d m e)) → Q (.ref r) H'
theorem Md.w {x y : Int} (a : Md x) (b : Md y) : CMulW x y := wide_mul a b (by decide) (by decide) (by decide)
def spSum : Sp := spBinP (fun n d m e => n * e + m * d) (fun _ d _ e => d * e)
def spBy : Sp := spBinP (fun n _ m _ => n * m) (fun _ d _ e => d * e)
section
variable {P : Program} {w : World} {K : PySem.W.Frag} {mg : Str → Option Value} {base : Heap}
/-! sums and products of pairs -/
theorem scSu : FnScope ["one", "two"] ["one", "two"] (defScope sSum) := ⟨rfl, rfl, rfl, by decide +kernel, rfl, by decide +kernel, by decide +kernel⟩
theorem scB : FnScope ["one", "two"] ["one", "two"] (defScope sBy) := ⟨rfl, rfl, rfl, by decide +kernel, rfl, by decide +kernel, by decide +kernel⟩
theorem ok_sum {f fP : Addr} {fd fdP : FuncData} (F : Fun K "_law_sum" "_law_sum" sSum f fd) (GP : FnOk P w K mg base CX0 1 fP fdP ["above", "below"] spPair) (mP : mg "_law_pair" = some (.ref fP)) (kP : PySem.W.keepIn K (.ref fP) = true) (bP : Binds K fdP ["above", "below"] []) :
    FnOk P w K mg base CX0 2 f fd ["one", "two"] spSum := by
  refine F.ok scSu (fun vs H Q E h => ?_) (fun cdv A outer s H vs Q E hr h => ?_)
  · obtain ⟨p, q, n, d, m, e, rfl, _⟩ := h
    rfl
  · obtain ⟨p, q, n, d, m, e, rfl, hp, hq, hd, he, sn, sd, sm, se, sde, kk⟩ := h
    refine ⟨_, C8.pss_cut (ps_if (PW.pt (pw_and (pt_cmpR op_eq (pe_ix ix_tup (pv 0) pe_int (fun _ _ => rfl)) pe_int (nomark _)) (pw_and1 (pt_cmpR op_eq (pe_ix ix_tup (pv 1) pe_int (fun _ _ => rfl)) pe_int (nomark _)))))
        (pss_one (ps_ret (pe_tup (pa_cons (pe_op op_add (pe_ix ix_tup (pv 0) pe_int (fun _ _ => rfl)) (pe_ix ix_tup (pv 1) pe_int (fun _ _ => rfl))) (pa_cons pe_int pa_nil))))) pss_nil)
      (pss_one (ps_ret (pe_call GP hr rfl mP kP bP .nil pass0 (pa_cons (pe_op op_add (pe_op op_mulW (pe_ix ix_tup (pv 0) pe_int (fun _ _ => rfl)) (pe_ix ix_tup (pv 1) pe_int (fun _ _ => rfl))) (pe_op op_mulW (pe_ix ix_tup (pv 1) pe_int (fun _ _ => rfl)) (pe_ix ix_tup (pv 0) pe_int (fun _ _ => rfl))))
        (pa_cons (pe_op op_mulW (pe_ix ix_tup (pv 0) pe_int (fun _ _ => rfl)) (pe_ix ix_tup (pv 1) pe_int (fun _ _ => rfl))) pa_nil))))), ?_⟩
    refine ⟨fun σ' H2 => σ' = [some (.ref p), some (.ref q)] ∧ H2 = H, ?_, ?_⟩
    · refine ⟨_, rfl, p, _, 1, _, rfl, rfl, hp.t, rfl, rfl, _, rfl, ?_⟩
      refine ite2 (fun z => ?_) (fun _ => ⟨rfl, rfl⟩)
      have z := of_decide_eq_true z
      injection z with z
      subst z
      refine ⟨_, rfl, q, _, 1, _, rfl, rfl, hq.t, rfl, rfl, _, rfl, ?_⟩
      refine ite2 (fun z => ?_) (fun _ => ⟨rfl, rfl⟩)
      have z := of_decide_eq_true z
      injection z with z
      subst z
      refine ⟨_, rfl, p, _, 0, _, rfl, rfl, hp.t, rfl, _, rfl, q, _, 0, _, rfl, rfl, hq.t, rfl, _, _, rfl, rfl, (by show 2 ≤ sizeLine; decide), fun r nr => ?_⟩
      refine kk r _ (Same.upd nr) nr ?_
      have o := RT.one (n * 1 + m * 1)
      show upd H r _ r = some (.tup [.int (RT.top (n * 1 + m * 1) 1), .int (RT.bot (n * 1 + m * 1) 1)])
      rw [upd_same, o.1, o.2, Int.mul_one, Int.mul_one]
    · rintro σ' H2 ⟨rfl, rfl⟩
      refine ⟨_, rfl, p, _, 0, _, rfl, rfl, hp.t, rfl, _, rfl, q, _, 1, _, rfl, rfl, hq.t, rfl, _, _, rfl, rfl, Md.w sn se, _, rfl, q, _, 0, _, rfl, rfl, hq.t, rfl, _, rfl, p, _, 1, _, rfl, rfl, hp.t, rfl, _, _, rfl, rfl, Md.w sm sd, _, _, rfl, rfl, _, rfl, p, _, 1, _, rfl, rfl, hp.t, rfl, _, rfl, q, _, 1, _, rfl, rfl, hq.t, rfl, _, _, rfl, rfl, Md.w sd se, ?_⟩
      exact ⟨_, _, rfl, Int.mul_ne_zero hd he, sde, kk⟩
theorem ok_by {f fP : Addr} {fd fdP : FuncData} (F : Fun K "_law_by" "_law_by" sBy f fd) (GP : FnOk P w K mg base CX0 1 fP fdP ["above", "below"] spPair) (mP : mg "_law_pair" = some (.ref fP)) (kP : PySem.W.keepIn K (.ref fP) = true) (bP : Binds K fdP ["above", "below"] []) :
    FnOk P w K mg base CX0 2 f fd ["one", "two"] spBy := by
  refine F.ok scB (fun vs H Q E h => ?_) (fun cdv A outer s H vs Q E hr h => ?_)
  · obtain ⟨p, q, n, d, m, e, rfl, _⟩ := h
    rfl
  · obtain ⟨p, q, n, d, m, e, rfl, hp, hq, hd, he, sn, sd, sm, se, sde, kk⟩ := h
    refine ⟨_, C8.pss_cut (ps_if (PW.pt (pw_and (pt_cmpR op_eq (pe_ix ix_tup (pv 0) pe_int (fun _ _ => rfl)) pe_int (nomark _)) (pw_and1 (pt_cmpR op_eq (pe_ix ix_tup (pv 1) pe_int (fun _ _ => rfl)) pe_int (nomark _)))))
        (pss_one (ps_ret (pe_tup (pa_cons (pe_op op_mulW (pe_ix ix_tup (pv 0) pe_int (fun _ _ => rfl)) (pe_ix ix_tup (pv 1) pe_int (fun _ _ => rfl))) (pa_cons pe_int pa_nil))))) pss_nil)
      (pss_one (ps_ret (pe_call GP hr rfl mP kP bP .nil pass0 (pa_cons (pe_op op_mulW (pe_ix ix_tup (pv 0) pe_int (fun _ _ => rfl)) (pe_ix ix_tup (pv 1) pe_int (fun _ _ => rfl)))
        (pa_cons (pe_op op_mulW (pe_ix ix_tup (pv 0) pe_int (fun _ _ => rfl)) (pe_ix ix_tup (pv 1) pe_int (fun _ _ => rfl))) pa_nil))))), ?_⟩
    refine ⟨fun σ' H2 => σ' = [some (.ref p), some (.ref q)] ∧ H2 = H, ?_, ?_⟩
    · refine ⟨_, rfl, p, _, 1, _, rfl, rfl, hp.t, rfl, rfl, _, rfl, ?_⟩
      refine ite2 (fun z => ?_) (fun _ => ⟨rfl, rfl⟩)
      have z := of_decide_eq_true z
      injection z with z
      subst z
      refine ⟨_, rfl, q, _, 1, _, rfl, rfl, hq.t, rfl, rfl, _, rfl, ?_⟩
      refine ite2 (fun z => ?_) (fun _ => ⟨rfl, rfl⟩)
      have z := of_decide_eq_true z
      injection z with z
      subst z
      refine ⟨_, rfl, p, _, 0, _, rfl, rfl, hp.t, rfl, _, rfl, q, _, 0, _, rfl, rfl, hq.t, rfl, _, _, rfl, rfl, Md.w sn sm, (by show 2 ≤ sizeLine; decide), fun r nr => ?_⟩
      refine kk r _ (Same.upd nr) nr ?_
      have o := RT.one (n * m)
      show upd H r _ r = some (.tup [.int (RT.top (n * m) 1), .int (RT.bot (n * m) 1)])
      rw [upd_same, o.1, o.2]
    · rintro σ' H2 ⟨rfl, rfl⟩
      refine ⟨_, rfl, p, _, 0, _, rfl, rfl, hp.t, rfl, _, rfl, q, _, 0, _, rfl, rfl, hq.t, rfl, _, _, rfl, rfl, Md.w sn sm, _, rfl, p, _, 1, _, rfl, rfl, hp.t, rfl, _, rfl, q, _, 1, _, rfl, rfl, hq.t, rfl, _, _, rfl, rfl, Md.w sd se, ?_⟩
      exact ⟨_, _, rfl, Int.mul_ne_zero hd he, sde, kk⟩
end
end RX

set_option Elab.async false
set_option maxRecDepth 100000
namespace RX
open PySem L2
abbrev sIsInt : Stmt := topS 20
abbrev sSame : Stmt := topS 21
def spIsInt : Sp := fun vs H Q _ => ∃ n : Int, vs = [.int n] ∧ Q (.bl true) H
/-- a Ratio and a pair that are the same -/
def spSame (C : Addr) : Sp := fun vs H Q _ => ∃ (p q : Addr) (n d : Int), vs = [.ref p, .ref q] ∧ RatAt C H p n d ∧ PairAt H q n d ∧ Q (.bl true) H
section
variable {P : Program} {w : World} {K : PySem.W.Frag} {mg : Str → Option Value} {base : Heap}
theorem scIs : FnScope ["actual"] ["actual"] (defScope sIsInt) := ⟨rfl, rfl, rfl, by decide +kernel, rfl, by decide +kernel, by decide +kernel⟩
theorem ok_isInt {f : Addr} {fd : FuncData} (F : Fun K "_law_is_integer" "_law_is_integer" sIsInt f fd) (T : TxtL mg) : FnOk P w K mg base CX0 1 f fd ["actual"] spIsInt := by
  refine F.ok scIs (fun vs H Q E h => ?_) (fun cdv A outer s H vs Q E hr h => ?_)
  · obtain ⟨n, rfl, _⟩ := h
    rfl
  · obtain ⟨n, rfl, k⟩ := h
    refine ⟨_, pss_one (ps_ret (pe_and (pe_callB call_isi (by rfl) T.isi (by decide +kernel) (pa_cons (pv 0) (pa_cons (pe_bltn (v := .ty "int") (by rfl) T.int (by decide +kernel) rfl) pa_nil)))
      (pe_one (pe_not (pe_callB call_isi (by rfl) T.isi (by decide +kernel) (pa_cons (pv 0) (pa_cons (pe_bltn (v := .ty "bool") (by rfl) T.bool (by decide +kernel) rfl) pa_nil))))))), ?_⟩
    refine ⟨_, rfl, _, _, _, _, true, rfl, .ty _, .base (.int n), kit_ty (by decide +kernel), true, rfl, ?_⟩
    refine iteT ?_
    exact ⟨_, rfl, _, _, _, _, false, rfl, .ty _, .base (.int n), kit_ty (by decide +kernel), false, rfl, k⟩
theorem scSa : FnScope ["actual", "due"] ["actual", "due"] (defScope sSame) := ⟨rfl, rfl, rfl, by decide +kernel, rfl, by decide +kernel, by decide +kernel⟩
theorem ok_same {f fI C : Addr} {fd fdI : FuncData} (F : Fun K "_law_same" "_law_same" sSame f fd) (T : TxtL mg) (R : TxtR K mg C) (c : C8.InsC K C) (GI : FnOk P w K mg base CX0 1 fI fdI ["actual"] spIsInt) (mI : mg "_law_is_integer" = some (.ref fI)) (kI : PySem.W.keepIn K (.ref fI) = true) (bI : Binds K fdI ["actual"] []) :
    FnOk P w K mg base CX0 2 f fd ["actual", "due"] (spSame C) := by
  refine F.ok scSa (fun vs H Q E h => ?_) (fun cdv A outer s H vs Q E hr h => ?_)
  · obtain ⟨p, q, n, d, rfl, _⟩ := h
    rfl
  · obtain ⟨p, q, n, d, rfl, ⟨dx, hp⟩, hq, k⟩ := h
    refine ⟨_, pss_cons (ps_if (pt_not (pt_val (pe_callB (C8.call_isC c) (by rfl) T.isi (by decide +kernel) (pa_cons (pv 0) (pa_cons (pe_glob (v := .ref C) (by rfl) R.mgC rfl) pa_nil))))) (pss_one ps_never) pss_nil)
      (pss_cons (ps_if (PW.pt (pw_or (pt_not (pt_val (pe_call GI hr rfl mI kI bI .nil pass0 (pa_cons (pe_fld (pv 0) rfl) pa_nil)))) (pw_or1 (pt_not (pt_val (pe_call GI hr rfl mI kI bI .nil pass0 (pa_cons (pe_fld (pv 0) rfl) pa_nil)))))))
        (pss_one ps_never) pss_nil)
      (pss_one (ps_ret (pe_and (pe_cmpR op_eq (pe_fld (pv 0) rfl) (pe_ix ix_tup (pv 1) pe_int (fun _ _ => rfl)) (nomark _)) (pe_one (pe_cmpR op_eq (pe_fld (pv 0) rfl) (pe_ix ix_tup (pv 1) pe_int (fun _ _ => rfl)) (nomark _))))))), ?_⟩
    refine ⟨_, rfl, p, dx, _, rfl, hp, true, rfl, ?_⟩
    refine iteF ?_
    refine ⟨_, rfl, p, C, dx, _, _, rfl, hp, R.cl, R.nT, rf_top _ _, n, rfl, true, rfl, ?_⟩
    refine iteF ?_
    refine ⟨_, rfl, p, C, dx, _, _, rfl, hp, R.cl, R.nB, rf_bot _ _, d, rfl, true, rfl, ?_⟩
    refine iteF ?_
    refine ⟨_, rfl, p, C, dx, _, _, rfl, hp, R.cl, R.nT, rf_top _ _, _, rfl, q, _, 0, _, rfl, rfl, hq.t, rfl, rfl, true, (by rw [decide_eq_true rfl]), ?_⟩
    refine iteT ?_
    refine ⟨_, rfl, p, C, dx, _, _, rfl, hp, R.cl, R.nB, rf_bot _ _, _, rfl, q, _, 1, _, rfl, rfl, hq.t, rfl, rfl, ?_⟩
    show Q (V.bl (decide (V.int d = V.int d))) H
    rw [decide_eq_true rfl]
    exact k
end
end RX

set_option Elab.async false
set_option maxRecDepth 100000
namespace RX
open PySem L2
theorem map_range_ext {α : Type} {i : Nat} {f g : Nat → α} (h : ∀ j, j < i → f j = g j) : (List.range i).map f = (List.range i).map g :=
  List.map_congr_left fun j hj => h j (List.mem_range.mp hj)
/-- one more at the end -/
def ext {α : Type} (f : Nat → α) (i : Nat) (x : α) : Nat → α := fun j => if j = i then x else f j
theorem ext_same {α : Type} (f : Nat → α) (i : Nat) (x : α) : ext f i x i = x := if_pos rfl
theorem ext_lt {α : Type} (f : Nat → α) {i j : Nat} (x : α) (h : j < i) : ext f i x j = f j := if_neg (by omega)
theorem map_ext {α : Type} (f : Nat → α) (i : Nat) (x : α) : (List.range (i + 1)).map (ext f i x) = (List.range i).map f ++ [x] := by
  rw [List.range_succ, List.map_append]
  rw [map_range_ext (f := ext f i x) (g := f) fun j h => ext_lt f x h]
  show _ ++ [ext f i x i] = _
  rw [ext_same]
theorem FeedAt.lst {H : Hp} {a cl : Addr} (h : FeedAt H a cl) : ∃ xs, H a = some (.lst xs) := let ⟨_, _, _, _, f⟩ := h; ⟨_, f.hA⟩
theorem FeedAt.lst2 {H : Hp} {a cl : Addr} (h : FeedAt H a cl) : ∃ xs, H cl = some (.lst xs) := let ⟨_, _, _, _, f⟩ := h; ⟨_, f.hC⟩
theorem FeedAt.other {H : Hp} {a cl r : Addr} {o : HO} (h : FeedAt H a cl) (h1 : r ≠ a) (h2 : r ≠ cl) : FeedAt (upd H r o) a cl :=
  let ⟨cs, i, p, s, f⟩ := h
  ⟨cs, i, p, s, by rw [upd_ne h1.symm]; exact f.hA, by rw [upd_ne h2.symm]; exact f.hC, f.ne, f.i0, f.p0, f.s0, f.s1, f.len, f.nn⟩
theorem PairAt.ne {H : Hp} {q R : Addr} {n d : Int} {xs : List V} (h : PairAt H q n d) (h2 : H R = some (.lst xs)) : q ≠ R := ne_of h h2 (by intro z; cases z)
theorem PairAt.other {H : Hp} {q R : Addr} {n d : Int} {o : HO} (h : PairAt H q n d) (ne : q ≠ R) : PairAt (upd H R o) q n d := by
  show upd H R o q = _
  rw [upd_ne ne]
  exact h
theorem PairAt.but {H H' : Hp} {a q : Addr} {n d : Int} (h : PairAt H q n d) (x : But a H H') (ne : q ≠ a) : PairAt H' q n d := x _ _ h ne
theorem RatAt.other {C : Addr} {H : Hp} {q R : Addr} {n d : Int} {o : HO} (h : RatAt C H q n d) (ne : q ≠ R) : RatAt C (upd H R o) q n d := by
  obtain ⟨dx, h⟩ := h
  exact ⟨dx, by rw [upd_ne ne]; exact h⟩
theorem ex1 (x : Int) : V.bl (decide (V.int x = V.int x)) = V.bl true := by rw [decide_eq_true rfl]
end RX

set_option exponentiation.threshold 100000
namespace RT
/-- the sum of the products of n / d with m / e, each step in lowest terms -/
def due (n d m e : Nat → Int) : Nat → Int × Int
  | 0 => (0, 1)
  | k + 1 => if n k ≠ 0 ∧ m k ≠ 0 then
      (top ((due n d m e k).1 * bot (n k * m k) (d k * e k) + top (n k * m k) (d k * e k) * (due n d m e k).2) ((due n d m e k).2 * bot (n k * m k) (d k * e k)),
       bot ((due n d m e k).1 * bot (n k * m k) (d k * e k) + top (n k * m k) (d k * e k) * (due n d m e k).2) ((due n d m e k).2 * bot (n k * m k) (d k * e k)))
    else due n d m e k
theorem due_yes {n d m e : Nat → Int} {k : Nat} (h1 : n k ≠ 0) (h2 : m k ≠ 0) : due n d m e (k + 1) =
    (top ((due n d m e k).1 * bot (n k * m k) (d k * e k) + top (n k * m k) (d k * e k) * (due n d m e k).2) ((due n d m e k).2 * bot (n k * m k) (d k * e k)),
       bot ((due n d m e k).1 * bot (n k * m k) (d k * e k) + top (n k * m k) (d k * e k) * (due n d m e k).2) ((due n d m e k).2 * bot (n k * m k) (d k * e k))) := if_pos ⟨h1, h2⟩
theorem due_no {n d m e : Nat → Int} {k : Nat} (h : ¬ (n k ≠ 0 ∧ m k ≠ 0)) : due n d m e (k + 1) = due n d m e k := if_neg h
abbrev BB : Nat := 2 ^ 134
/-- of at most 67 bits, the bottom above 0 -/
structure Fr (x y : Int) : Prop where
  n : x.natAbs < 2 ^ 67
  d : y.natAbs < 2 ^ 67
  p : 0 < y
structure DueOk (k : Nat) (p : Int × Int) : Prop where
  pos : 0 < p.2
  co : Nat.Coprime p.1.natAbs p.2.natAbs
  bot : p.2.natAbs ≤ BB ^ k
  top : p.1.natAbs ≤ k * BB * p.2.natAbs
theorem prod_lt {x y : Int} (h : x.natAbs < 2 ^ 67) (h' : y.natAbs < 2 ^ 67) : (x * y).natAbs ≤ BB := by
  rw [Int.natAbs_mul]
  have := Nat.mul_lt_mul'' h h'
  rw [← Nat.pow_add] at this
  exact Nat.le_of_lt this
theorem due_step {k : Nat} {p : Int × Int} (h : DueOk k p) {x y : Int} (hy : 0 < y) (x1 : x.natAbs ≤ BB) (y1 : y.natAbs ≤ BB) :
    DueOk (k + 1) (RT.top (p.1 * y + x * p.2) (p.2 * y), RT.bot (p.1 * y + x * p.2) (p.2 * y)) := by
  have hD : p.2 * y ≠ 0 := Int.mul_ne_zero (by have := h.pos; omega) (by omega)
  have hDp : 0 < (p.2 * y).natAbs := Int.natAbs_pos.mpr hD
  refine ⟨bot_pos hD, cop hD, ?_, ?_⟩
  · refine Nat.le_trans (bot_le hD) ?_
    rw [Int.natAbs_mul, Nat.pow_succ]
    exact Nat.mul_le_mul h.bot y1
  · have c := cross (t := p.1 * y + x * p.2) hD
    have c' : (RT.top (p.1 * y + x * p.2) (p.2 * y)).natAbs * (p.2 * y).natAbs = (p.1 * y + x * p.2).natAbs * (RT.bot (p.1 * y + x * p.2) (p.2 * y)).natAbs := by rw [← Int.natAbs_mul, c, Int.natAbs_mul]
    have t1 : (p.1 * y + x * p.2).natAbs ≤ (k + 1) * BB * (p.2 * y).natAbs := by
      refine Nat.le_trans (Int.natAbs_add_le _ _) ?_
      rw [Int.natAbs_mul, Int.natAbs_mul, Int.natAbs_mul]
      have a1 : p.1.natAbs * y.natAbs ≤ k * BB * p.2.natAbs * y.natAbs := Nat.mul_le_mul_right _ h.top
      have a2 : x.natAbs * p.2.natAbs ≤ BB * p.2.natAbs * y.natAbs := by
        have : 1 ≤ y.natAbs := by omega
        refine Nat.le_trans (Nat.mul_le_mul_right _ x1) ?_
        exact Nat.le_mul_of_pos_right _ this
      have : (k + 1) * BB * (p.2.natAbs * y.natAbs) = k * BB * p.2.natAbs * y.natAbs + BB * p.2.natAbs * y.natAbs := by
        rw [Nat.add_mul, Nat.add_mul, Nat.one_mul]
        congr 1 <;> ac_rfl
      rw [this]
      exact Nat.add_le_add a1 a2
    refine Nat.le_of_mul_le_mul_right ?_ hDp
    show (RT.top (p.1 * y + x * p.2) (p.2 * y)).natAbs * (p.2 * y).natAbs ≤ (k + 1) * BB * (RT.bot (p.1 * y + x * p.2) (p.2 * y)).natAbs * (p.2 * y).natAbs
    rw [c']
    have := Nat.mul_le_mul_right (RT.bot (p.1 * y + x * p.2) (p.2 * y)).natAbs t1
    refine Nat.le_trans this (Nat.le_of_eq ?_)
    ac_rfl
theorem DueOk.up {k : Nat} {p : Int × Int} (h : DueOk k p) : DueOk (k + 1) p :=
  ⟨h.pos, h.co, Nat.le_trans h.bot (Nat.pow_le_pow_right (by decide) (by omega)), Nat.le_trans h.top (Nat.mul_le_mul_right _ (Nat.mul_le_mul_right _ (by omega)))⟩
theorem due_ok {n d m e : Nat → Int} : ∀ {k : Nat}, (∀ j, j < k → Fr (n j) (d j) ∧ Fr (m j) (e j)) → DueOk k (due n d m e k)
  | 0, _ => ⟨show (0 : Int) < 1 by decide, Nat.coprime_one_right _, show 1 ≤ 1 by decide, Nat.zero_le _⟩
  | k + 1, h => by
    have i := due_ok (k := k) fun j hj => h j (by omega)
    obtain ⟨f1, f2⟩ := h k (by omega)
    by_cases z : n k ≠ 0 ∧ m k ≠ 0
    · rw [due_yes z.1 z.2]
      have hb : d k * e k ≠ 0 := Int.mul_ne_zero (by have := f1.p; omega) (by have := f2.p; omega)
      exact due_step i (bot_pos hb) (Nat.le_trans (top_le hb) (prod_lt f1.n f2.n)) (Nat.le_trans (bot_le hb) (prod_lt f1.d f2.d))
    · rw [due_no z]
      exact i.up
/-- the running sum over one bottom -/
structure SumAt (n d m e : Nat → Int) (k : Nat) (t b : Int) : Prop where
  pos : 0 < b
  bot : b.natAbs ≤ BB ^ k
  top : t.natAbs ≤ k * BB * b.natAbs
  eq : t * (due n d m e k).2 = (due n d m e k).1 * b
def lcmI (x y : Int) : Int := ((Nat.lcm x.natAbs y.natAbs : Nat) : Int)
theorem lcm_l (x y : Int) : x ∣ lcmI x y := by
  unfold lcmI
  exact Int.natAbs_dvd_natAbs.mp (by rw [Int.natAbs_natCast]; exact Nat.dvd_lcm_left _ _)
theorem lcm_r (x y : Int) : y ∣ lcmI x y := by
  unfold lcmI
  exact Int.natAbs_dvd_natAbs.mp (by rw [Int.natAbs_natCast]; exact Nat.dvd_lcm_right _ _)
theorem lcm_pos {x y : Int} (hx : 0 < x) (hy : 0 < y) : 0 < lcmI x y := by
  unfold lcmI
  have : 0 < Nat.lcm x.natAbs y.natAbs := Nat.lcm_pos (by omega) (by omega)
  omega
theorem lcm_le {x y : Int} (hx : 0 < x) (hy : 0 < y) : (lcmI x y).natAbs ≤ x.natAbs * y.natAbs := by
  unfold lcmI
  rw [Int.natAbs_natCast]
  exact Nat.le_of_dvd (Nat.mul_pos (by omega) (by omega)) (Nat.lcm_dvd_mul _ _)
theorem sum_zero {n d m e : Nat → Int} : SumAt n d m e 0 0 1 := ⟨by decide, by decide, by decide, by rfl⟩
theorem sum_no {n d m e : Nat → Int} {k : Nat} {t b : Int} (h : SumAt n d m e k t b) (z : n k * m k = 0) : SumAt n d m e (k + 1) t b := by
  refine ⟨h.pos, Nat.le_trans h.bot (Nat.pow_le_pow_right (by decide) (by omega)), Nat.le_trans h.top (Nat.mul_le_mul_right _ (Nat.mul_le_mul_right _ (by omega))), ?_⟩
  rw [due_no (fun ⟨x, y⟩ => Int.mul_ne_zero x y z)]
  exact h.eq
theorem sum_yes {n d m e : Nat → Int} {k : Nat} {t b : Int} (h : SumAt n d m e k t b) (f : ∀ j, j < k + 1 → Fr (n j) (d j) ∧ Fr (m j) (e j)) (z : n k * m k ≠ 0) :
    SumAt n d m e (k + 1) (t * (lcmI b (d k * e k)).fdiv b + n k * m k * (lcmI b (d k * e k)).fdiv (d k * e k)) (lcmI b (d k * e k)) := by
  obtain ⟨f1, f2⟩ := f k (by omega)
  have hb : 0 < d k * e k := Int.mul_pos f1.p f2.p
  have hL := lcm_pos h.pos hb
  have c1 := fdiv_of_dvd (by have := h.pos; omega) (lcm_l b (d k * e k))
  have c2 := fdiv_of_dvd (by omega) (lcm_r b (d k * e k))
  have hle := lcm_le h.pos hb
  generalize lcmI b (d k * e k) = L at *
  generalize L.fdiv b = q1 at *
  generalize L.fdiv (d k * e k) = q2 at *
  have dk := due_ok (n := n) (d := d) (m := m) (e := e) (k := k) fun j hj => f j (by omega)
  refine ⟨hL, ?_, ?_, ?_⟩
  · rw [Nat.pow_succ]
    exact Nat.le_trans hle (Nat.mul_le_mul h.bot (prod_lt f1.d f2.d))
  · refine Nat.le_trans (Int.natAbs_add_le _ _) ?_
    have e1 : q1.natAbs * b.natAbs = L.natAbs := by rw [← Int.natAbs_mul, c1]
    have e2 : q2.natAbs * (d k * e k).natAbs = L.natAbs := by rw [← Int.natAbs_mul, c2]
    have a1 : (t * q1).natAbs ≤ k * BB * L.natAbs := by
      rw [Int.natAbs_mul, ← e1]
      refine Nat.le_trans (Nat.mul_le_mul_right _ h.top) (Nat.le_of_eq ?_)
      ac_rfl
    have a2 : (n k * m k * q2).natAbs ≤ BB * L.natAbs := by
      rw [Int.natAbs_mul]
      refine Nat.mul_le_mul (prod_lt f1.n f2.n) ?_
      rw [← e2]
      exact Nat.le_mul_of_pos_right _ (by omega)
    have : (k + 1) * BB * L.natAbs = k * BB * L.natAbs + BB * L.natAbs := by
      rw [Nat.add_mul, Nat.add_mul, Nat.one_mul]
    rw [this]
    exact Nat.add_le_add a1 a2
  · have z1 : n k ≠ 0 := fun z' => z (by rw [z', Int.zero_mul])
    have z2 : m k ≠ 0 := fun z' => z (by rw [z', Int.mul_zero])
    rw [due_yes z1 z2]
    have hbn : d k * e k ≠ 0 := by omega
    have x1 := cross (t := n k * m k) hbn
    have y0 := bot_pos (t := n k * m k) hbn
    have he := h.eq
    have p0 := dk.pos
    generalize due n d m e k = p at *
    generalize RT.top (n k * m k) (d k * e k) = x at *
    generalize RT.bot (n k * m k) (d k * e k) = y at *
    have hD : p.2 * y ≠ 0 := Int.mul_ne_zero (by omega) (by omega)
    have c := cross (t := p.1 * y + x * p.2) hD
    have key : (t * q1 + n k * m k * q2) * (p.2 * y) = (p.1 * y + x * p.2) * L := by
      calc (t * q1 + n k * m k * q2) * (p.2 * y) = t * p.2 * (q1 * y) + n k * m k * y * (q2 * p.2) := by
            rw [Int.add_mul]; congr 1 <;> ac_rfl
        _ = p.1 * b * (q1 * y) + x * (d k * e k) * (q2 * p.2) := by rw [he, x1]
        _ = p.1 * y * (q1 * b) + x * p.2 * (q2 * (d k * e k)) := by congr 1 <;> ac_rfl
        _ = p.1 * y * L + x * p.2 * L := by rw [c1, c2]
        _ = _ := by rw [Int.add_mul]
    show (t * q1 + n k * m k * q2) * RT.bot (p.1 * y + x * p.2) (p.2 * y) = RT.top (p.1 * y + x * p.2) (p.2 * y) * L
    refine Int.eq_of_mul_eq_mul_right hD ?_
    calc (t * q1 + n k * m k * q2) * RT.bot (p.1 * y + x * p.2) (p.2 * y) * (p.2 * y) = ((t * q1 + n k * m k * q2) * (p.2 * y)) * RT.bot (p.1 * y + x * p.2) (p.2 * y) := by ac_rfl
      _ = ((p.1 * y + x * p.2) * RT.bot (p.1 * y + x * p.2) (p.2 * y)) * L := by rw [key]; ac_rfl
      _ = (RT.top (p.1 * y + x * p.2) (p.2 * y) * (p.2 * y)) * L := by rw [c]
      _ = RT.top (p.1 * y + x * p.2) (p.2 * y) * L * (p.2 * y) := by ac_rfl
theorem sum_end {n d m e : Nat → Int} {k : Nat} {t b : Int} (h : SumAt n d m e k t b) (f : ∀ j, j < k → Fr (n j) (d j) ∧ Fr (m j) (e j)) : RT.top t b = (due n d m e k).1 ∧ RT.bot t b = (due n d m e k).2 := by
  have dk := due_ok f
  have p0 := dk.pos
  have k1 := keeps dk.pos dk.co
  have s := same (t := t) (b := b) (t' := (due n d m e k).1) (b' := (due n d m e k).2) (by have := h.pos; omega) (by omega) h.eq
  exact ⟨s.1.trans k1.1, s.2.trans k1.2⟩
theorem BB_pow {k : Nat} (h : k ≤ 60) : BB ^ k ≤ 2 ^ 8040 := by
  have : BB ^ k ≤ BB ^ 60 := Nat.pow_le_pow_right (by decide) h
  exact Nat.le_trans this (by rw [← Nat.pow_mul]; exact Nat.le_refl _)
theorem BB_top {k x : Nat} (h : k ≤ 60) (hx : x ≤ 2 ^ 8040) : k * BB * x < 2 ^ 8200 := by
  have h1 : k * BB ≤ 2 ^ 6 * 2 ^ 134 := Nat.mul_le_mul_right _ (by omega)
  have h2 : k * BB * x ≤ 2 ^ 6 * 2 ^ 134 * 2 ^ 8040 := Nat.mul_le_mul h1 hx
  rw [← Nat.pow_add, ← Nat.pow_add] at h2
  exact Nat.lt_of_le_of_lt h2 (Nat.pow_lt_pow_right (by decide) (by decide))
end RT

set_option Elab.async false
set_option maxRecDepth 100000
set_option exponentiation.threshold 100000
namespace RX
open PySem L2
/-! ### math.lcm, the sum of products, a row along columns -/
def rLcm : List V → Hp → VK → Prop := fun vs H Q => ∃ a b : Int, vs = [.int a, .int b] ∧ a.natAbs < 2 ^ 13000 ∧ b.natAbs < 2 ^ 13000 ∧ Q (.int (RT.lcmI a b)) H
theorem lcm_log {x : Nat} (h : x < 2 ^ 13000) : ¬ (max 1 x).log2 / 30 + 1 > 450 := by
  have : (max 1 x).log2 < 13000 := by
    refine (Nat.log2_lt (by omega)).mpr ?_
    have : 1 < 2 ^ 13000 := Nat.one_lt_two_pow (by decide)
    omega
  omega
theorem cr_lcm {X : Cx} : CallR X (.builtin "math.lcm") rLcm := by
  intro pins s σ H vs us Q I r h
  obtain ⟨a, b, rfl, ha, hb, q⟩ := h
  obtain ⟨t, u, rfl⟩ := Vals.int2 r
  have e1 : ((Nat.lcm 1 a.natAbs).lcm b.natAbs : Nat) = Nat.lcm a.natAbs b.natAbs := by rw [Nat.lcm_one_left]
  have hm : max a.natAbs b.natAbs < 2 ^ 13000 := by omega
  have g := PySem.W.mg_run_lcm a t b u (lcm_log ha) (by
      have := lcm_log hm
      have h2 : (max a.natAbs b.natAbs).log2 ≤ (max 1 (max a.natAbs b.natAbs)).log2 := by
        by_cases z : max a.natAbs b.natAbs = 0
        · rw [z]; exact Nat.zero_le _
        · rw [show max 1 (max a.natAbs b.natAbs) = max a.natAbs b.natAbs by omega]; exact Nat.le_refl _
      omega) (by
      rw [e1, Int.natAbs_natCast]
      have h3 : Nat.lcm a.natAbs b.natAbs < 2 ^ 26000 := by
        by_cases z : a.natAbs = 0
        · rw [z, Nat.lcm_zero_left]; exact Nat.two_pow_pos _
        by_cases z2 : b.natAbs = 0
        · rw [z2, Nat.lcm_zero_right]; exact Nat.two_pow_pos _
        refine Nat.lt_of_le_of_lt (Nat.le_of_dvd (Nat.mul_pos (by omega) (by omega)) (Nat.lcm_dvd_mul _ _)) ?_
        have := Nat.mul_lt_mul'' ha hb
        rw [← Nat.pow_add] at this
        exact this
      by_cases z : Nat.lcm a.natAbs b.natAbs = 0
      · rw [z]; decide
      · exact Nat.lt_of_lt_of_le ((Nat.log2_lt z).mpr h3) (by decide))
  rw [e1] at g
  exact PySem.call_function_meets PySem.W.MGF.kind_lcm PySem.W.MGF.plain_lcm PySem.W.MGF.entry_lcm (PySem.W.MGF.args_lcm _ _) g.meets ⟨.int _, H, I.tok _, ⟨_, rfl⟩, q⟩
abbrev sSop : Stmt := topS 11
abbrev sAlong : Stmt := topS 12
/-- k of them, one after another -/
def refs (k : Nat) (a : Nat → Addr) : List V := (List.range k).map fun i => V.ref (a i)
theorem refs_len (k : Nat) (a : Nat → Addr) : (refs k a).length = k := by unfold refs; rw [List.length_map, List.length_range]
theorem refs_get {k : Nat} {a : Nat → Addr} {i : Nat} (h : i < k) : (refs k a)[i]? = some (.ref (a i)) := by
  unfold refs
  rw [List.getElem?_map, List.getElem?_range h]
  rfl
theorem refs_lt {k : Nat} {a : Nat → Addr} {i : Nat} {x : V} (h : (refs k a)[i]? = some x) : i < k ∧ x = .ref (a i) := by
  have hi : i < k := by
    have := (List.getElem?_eq_some_iff.mp h).1
    rw [refs_len] at this
    exact this
  rw [refs_get hi] at h
  exact ⟨hi, (Option.some.inj h).symm⟩
/-- a tuple of Ratios -/
structure RowAt (C : Addr) (H : Hp) (p : Addr) (k : Nat) (a : Nat → Addr) (n d : Nat → Int) : Prop where
  hp : H p = some (.tup (refs k a))
  r : ∀ i, i < k → RatAt C H (a i) (n i) (d i)
theorem RowAt.same {C : Addr} {H H' : Hp} {p : Addr} {k : Nat} {a : Nat → Addr} {n d : Nat → Int} (h : RowAt C H p k a n d) (s : Same H H') : RowAt C H' p k a n d := ⟨s _ _ h.hp, fun i hi => (h.r i hi).same s⟩
def Frs (k : Nat) (n d : Nat → Int) : Prop := ∀ i, i < k → RT.Fr (n i) (d i)
def spSop (C : Addr) : Sp := fun vs H Q _ => ∃ (p q : Addr) (k : Nat) (a b : Nat → Addr) (n d m e : Nat → Int), vs = [.ref p, .ref q] ∧ RowAt C H p k a n d ∧ RowAt C H q k b m e ∧ Frs k n d ∧ Frs k m e ∧ k ≤ 60 ∧
  ∀ (r : Addr) (H' : Hp), Same H H' → H r = none → RatAt C H' r (RT.due n d m e k).1 (RT.due n d m e k).2 → Q (.ref r) H'
structure TxtP (mg : Str → Option Value) : Prop where
  zip : mg "zip" = none
  lcm : mg "lcm" = some (.builtin "math.lcm")
  tup : mg "tuple" = none
  list : mg "list" = none
  range : mg "range" = none
section
variable {P : Program} {w : World} {K : PySem.W.Frag} {mg : Str → Option Value} {base : Heap}
theorem scSop : FnScope ["row", "column", "top", "bottom", "one", "other", "more", "below", "common"] ["row", "column"] (defScope sSop) := ⟨rfl, rfl, rfl, by decide +kernel, rfl, by decide +kernel, by decide +kernel⟩
theorem ok_sop {f fI C : Addr} {fd fdI : FuncData} (F : Fun K "sum_of_products" "sum_of_products" sSop f fd) (T : TxtP mg) (R : TxtR K mg C) (M : Mk K C fI) (GI : FnOk P w K mg base CX0 1 fI fdI ["self", "top", "bottom"] (spInit C)) (bI : Binds K fdI ["self", "top", "bottom"] []) :
    FnOk P w K mg base CX0 3 f fd ["row", "column"] (spSop C) := by
  refine F.ok scSop (fun vs H Q E h => ?_) (fun cdv A outer s H vs Q E hr h => ?_)
  · obtain ⟨p, q, k, a, b, n, d, m, e, rfl, _⟩ := h
    rfl
  · obtain ⟨p, q, k, a, b, n, d, m, e, rfl, hp, hq, fn, fm, hk, kk⟩ := h
    refine ⟨_, pss_cons (ps_asg (pe_tup (pa_cons pe_int (pa_cons pe_int pa_nil))) (pg_tup rfl (pgs_cons (pg_name (i := 2) scSop.nd rfl (.inl rfl)) (pgs_cons (pg_name (i := 3) scSop.nd rfl (.inl rfl)) pgs_nil))))
      (pss_cons (ps_for PassesOwn.never rfl (RZ.pi_zipA (by rfl) T.zip (pa_cons (pv 0) (pa_cons (pv 1) pa_nil))) (pg_tup rfl (pgs_cons (pg_name (i := 4) scSop.nd rfl (.inl rfl)) (pgs_cons (pg_name (i := 5) scSop.nd rfl (.inl rfl)) pgs_nil)))
        (pss_cons (ps_set (i := 6) scSop.nd rfl (.inl rfl) (pe_op op_mulW (pe_fld (pv 4) rfl) (pe_fld (pv 5) rfl)))
        (pss_one (ps_if (pt_truth (pv 6) (by intro _; rfl))
          (pss_cons (ps_set (i := 7) scSop.nd rfl (.inl rfl) (pe_op op_mulW (pe_fld (pv 4) rfl) (pe_fld (pv 5) rfl)))
          (pss_cons (ps_set (i := 8) scSop.nd rfl (.inl rfl) (pe_callBfun cr_lcm (by rfl) T.lcm (pa_cons (pv 3) (pa_cons (pv 7) pa_nil))))
          (pss_cons (ps_set (i := 2) scSop.nd rfl (.inl rfl) (pe_op op_add (pe_op op_mulW (pv 2) (pe_op op_fdivZ (pv 8) (pv 3))) (pe_op op_mulW (pv 6) (pe_op op_fdivZ (pv 8) (pv 7)))))
          (pss_one (ps_set (i := 3) scSop.nd rfl (.inl rfl) (pv 8)))))) pss_nil))))
      (pss_one (ps_ret (pe_make M GI hr rfl R.mgC bI .nil pass0 (pa_cons (pv 2) (pa_cons (pv 3) pa_nil)))))), ?_⟩
    refine ⟨(by show 2 ≤ sizeLine; decide), fun t0 n0 => ⟨t0, _, rfl, SqT.of upd_same, rfl, _, _, rfl, _, _, rfl, rfl, ?_⟩⟩
    have s0 : Same H (upd H t0 (.tup [.int 0, .int 1])) := Same.upd n0
    have hf : ∀ j, j < k → RT.Fr (n j) (d j) ∧ RT.Fr (m j) (e j) := fun j hj => ⟨fn j hj, fm j hj⟩
    refine ⟨_, rfl, _, rfl, p, q, refs k a, refs k b, rfl, .inr ⟨SqT.of (s0 _ _ hp.hp), SqT.of (s0 _ _ hq.hp), RZ.for_zipT (xs := refs k a) (ys := refs k b) (by rw [refs_len, refs_len])
      (fun i σ H' => ∃ t b o4 o5 o6 o7 o8, σ = [some (.ref p), some (.ref q), some (.int t), some (.int b), o4, o5, o6, o7, o8] ∧ RT.SumAt n d m e i t b ∧ Same H H')
      ⟨_, _, _, _, _, _, _, rfl, RT.sum_zero, s0⟩ ?_ ?_ ?_⟩⟩
    · rintro i σ H' ⟨t, b', o4, o5, o6, o7, o8, rfl, _, s1⟩
      exact ⟨SqT.of (s1 _ _ hp.hp), SqT.of (s1 _ _ hq.hp)⟩
    · rintro i x y T' σ H' hx hy ⟨t, b', o4, o5, o6, o7, o8, rfl, hs, s1⟩ nT
      obtain ⟨hi, rfl⟩ := refs_lt hx
      obtain ⟨_, rfl⟩ := refs_lt hy
      have s2 : Same H (upd H' T' (.tup [.ref (a i), .ref (b i)])) := s1.trans (Same.upd nT)
      obtain ⟨dx, ha⟩ := (hp.r i hi).same s2
      obtain ⟨dy, hb⟩ := (hq.r i hi).same s2
      obtain ⟨f1, f2⟩ := hf i hi
      have w67 : ∀ {x y : Int}, x.natAbs < 2 ^ 67 → y.natAbs < 2 ^ 67 → CMulW x y := fun h h' => wide_mul h h' (by decide) (by decide) (by decide)
      have i60 : i ≤ 60 := by omega
      have tB : t.natAbs < 2 ^ 8200 := Nat.lt_of_le_of_lt hs.top (RT.BB_top i60 (Nat.le_trans hs.bot (RT.BB_pow i60)))
      have bB : b'.natAbs < 2 ^ 8041 := Nat.lt_of_le_of_lt (Nat.le_trans hs.bot (RT.BB_pow i60)) (Nat.pow_lt_pow_right (by decide) (by decide))
      have deB : (d i * e i).natAbs < 2 ^ 135 := Nat.lt_of_le_of_lt (RT.prod_lt f1.d f2.d) (Nat.pow_lt_pow_right (by decide) (by decide))
      have nmB : (n i * m i).natAbs < 2 ^ 135 := Nat.lt_of_le_of_lt (RT.prod_lt f1.n f2.n) (Nat.pow_lt_pow_right (by decide) (by decide))
      have bp := hs.pos
      have dep : 0 < d i * e i := Int.mul_pos f1.p f2.p
      refine ⟨T', _, rfl, SqT.of upd_same, rfl, _, _, rfl, _, _, rfl, rfl, ?_⟩
      refine ⟨_, rfl, _, C, dx, _, _, rfl, ha, R.cl, R.nT, rf_top _ _, _, rfl, _, C, dy, _, _, rfl, hb, R.cl, R.nT, rf_top _ _, _, _, rfl, rfl, w67 f1.n f2.n, ?_⟩
      refine ⟨_, rfl, _, rfl, ?_⟩
      by_cases z : n i * m i = 0
      · rw [show ((n i * m i != 0) : Bool) = false by rw [z]; rfl]
        refine iteF ?_
        exact ⟨_, _, _, _, _, _, _, rfl, RT.sum_no hs z, s2⟩
      · rw [show ((n i * m i != 0) : Bool) = true from bne_iff_ne.mpr z]
        refine iteT ?_
        have L1 := RT.lcm_pos bp dep
        have L2 : (RT.lcmI b' (d i * e i)).natAbs < 2 ^ 8200 := by
          refine Nat.lt_of_le_of_lt (RT.lcm_le bp dep) ?_
          have := Nat.mul_lt_mul'' bB deB
          rw [← Nat.pow_add] at this
          exact Nat.lt_trans this (Nat.pow_lt_pow_right (by decide) (by decide))
        have q1 : ((RT.lcmI b' (d i * e i)).fdiv b').natAbs < 2 ^ 8200 := by
          refine Nat.lt_of_le_of_lt ?_ L2
          have e1 := RT.fdiv_of_dvd (by omega) (RT.lcm_l b' (d i * e i))
          rw [← congrArg Int.natAbs e1, Int.natAbs_mul]
          exact Nat.le_mul_of_pos_right _ (by omega)
        have q2 : ((RT.lcmI b' (d i * e i)).fdiv (d i * e i)).natAbs < 2 ^ 8200 := by
          refine Nat.lt_of_le_of_lt ?_ L2
          have e1 := RT.fdiv_of_dvd (by omega) (RT.lcm_r b' (d i * e i))
          rw [← congrArg Int.natAbs e1, Int.natAbs_mul]
          exact Nat.le_mul_of_pos_right _ (by omega)
        refine ⟨_, rfl, _, C, dx, _, _, rfl, ha, R.cl, R.nB, rf_bot _ _, _, rfl, _, C, dy, _, _, rfl, hb, R.cl, R.nB, rf_bot _ _, _, _, rfl, rfl, w67 f1.d f2.d, ?_⟩
        refine ⟨_, rfl, _, rfl, _, _, rfl, Nat.lt_trans bB (Nat.pow_lt_pow_right (by decide) (by decide)), Nat.lt_trans deB (Nat.pow_lt_pow_right (by decide) (by decide)), ?_⟩
        refine ⟨_, rfl, _, rfl, _, rfl, _, _, rfl, rfl, divZ (by omega) bB (by decide) (by decide), _, _, rfl, rfl, wide_mul tB q1 (by decide) (by decide) (by decide), ?_⟩
        refine ⟨_, rfl, _, rfl, _, rfl, _, _, rfl, rfl, divZ (by omega) deB (by decide) (by decide), _, _, rfl, rfl, wide_mul nmB q2 (by decide) (by decide) (by decide), _, _, rfl, rfl, ?_⟩
        refine ⟨_, rfl, ?_⟩
        exact ⟨_, _, _, _, _, _, _, rfl, RT.sum_yes hs (fun j hj => hf j (by omega)) z, s2⟩
    · rintro σ H' ⟨t, b', o4, o5, o6, o7, o8, rfl, hs, s1⟩
      rw [refs_len] at hs
      have bB : b'.natAbs < 2 ^ 8900 := Nat.lt_of_le_of_lt (Nat.le_trans hs.bot (RT.BB_pow hk)) (Nat.pow_lt_pow_right (by decide) (by decide))
      refine ⟨_, rfl, _, rfl, ?_⟩
      have en := RT.sum_end hs hf
      refine make_in (by have := hs.pos; omega) bB fun r H2 s2 nr hR => ?_
      rw [en.1, en.2] at hR
      exact kk r H2 (s1.trans s2) (s1.free nr) hR
end
end RX

set_option Elab.async false
set_option maxRecDepth 100000
namespace ZS
open PySem
/-- an iterator, the tuple it goes over, that one's items -/
abbrev It := Nat × Nat × Array Value
/-- the iterators stand at place j of their tuples -/
def Ats (L : List It) (j : Nat) (h : Heap) : Prop := ∀ q ∈ L, h.IsTupleIter q.1 q.2.1 j ∧ h.IsTuple q.2.1 q.2.2
/-- no two iterators alike, none of them one of the tuples -/
structure Apart (L : List It) : Prop where
  nd : (L.map (·.1)).Nodup
  ne : ∀ q ∈ L, ∀ r ∈ L, q.1 ≠ r.2.1
/-- all but what P tells as it was -/
def Kept (P : Nat → Prop) (h h' : Heap) : Prop := h'.objs.size = h.objs.size ∧ ∀ c o, ¬ P c → h.get? c = some o → h'.get? c = some o
/-- the iterators -/
def Of (L : List It) (c : Nat) : Prop := ∃ q ∈ L, c = q.1
theorem not_of {L : List It} {c : Nat} (h : ∀ q ∈ L, c ≠ q.1) : ¬ Of L c := fun ⟨q, hq, e⟩ => h q hq e
section
variable {prog : Program} {w : World} {A : Around} {E : Value → Shared → Prop} {s : Shared}
theorem Ats.other {L : List It} {j : Nat} {h h' : Heap} {a : Nat} (x : Ats L j h) (sb : Heap.SameBut a h h') (n1 : ∀ q ∈ L, q.1 ≠ a) (n2 : ∀ q ∈ L, q.2.1 ≠ a) : Ats L j h' := fun q hq =>
  ⟨(x q hq).1.extBut sb.extBut (n1 q hq), (x q hq).2.extBut sb.extBut (n2 q hq)⟩
/-- what the loop over the iterators keeps -/
def Mid (P : Nat → Prop) (L : List It) (j : Nat) (h₁ : Heap) (s : Shared) (L1 L2 : List It) (s' : Shared) : Prop :=
  L = L1 ++ L2 ∧ ∃ h', s' = { s with heap := h' } ∧ Kept P h₁ h' ∧ Ats L1 (j + 1) h' ∧ Ats L2 j h'
/-- one iterator's turn -/
theorem Mid.next {P : Nat → Prop} {L L1 L2 : List It} {q : It} {j : Nat} {h₁ : Heap} {s s' : Shared} {v : Value} {Q : Value → Shared → Prop} (D : Apart L) (hP : ∀ c, Of L c → P c) (m : Mid P L j h₁ s L1 (q :: L2) s') (hv : q.2.2[j]? = some v)
    (hQ : ∀ s2, Mid P L j h₁ s (L1 ++ [q]) L2 s2 → Heap.SameBut q.1 s'.heap s2.heap → Q v s2) : wpAny (model prog w) A (Builtin.SmallTypes.nextOf (.ref q.1)) Q E s' := by
  obtain ⟨eL, h', rfl, ⟨ksz, kk⟩, a1, a2⟩ := m
  have q2 := a2 q List.mem_cons_self
  have memq : q ∈ L := by rw [eL]; simp
  refine RZ.nextOf_tuple_item q2.1 q2.2 hv fun h2 hit sb => hQ _ (id ⟨by rw [eL]; simp, h2, rfl, ⟨sb.1.trans ksz, fun c o hc e => sb.extBut _ _ (fun z => hc (hP c ⟨q, memq, z⟩)) (kk c o hc e)⟩, ?_, ?_⟩) sb
  · have nd := D.nd
    rw [eL, List.map_append, List.map_cons, List.nodup_append] at nd
    intro r hr
    rcases List.mem_append.mp hr with hr | hr
    · have rL : r ∈ L := by rw [eL]; exact List.mem_append_left _ hr
      have n1 : r.1 ≠ q.1 := nd.2.2 _ (List.mem_map_of_mem hr) _ List.mem_cons_self
      exact ⟨(a1 r hr).1.extBut sb.extBut n1, (a1 r hr).2.extBut sb.extBut (D.ne q memq r rL).symm⟩
    · rw [List.mem_singleton] at hr
      subst hr
      exact ⟨hit, q2.2.extBut sb.extBut (D.ne _ memq _ memq).symm⟩
  · have nd := D.nd
    rw [eL, List.map_append, List.map_cons, List.nodup_append, List.nodup_cons] at nd
    refine Ats.other (fun r hr => a2 r (List.mem_cons_of_mem _ hr)) sb (fun r hr z => nd.2.1.1 (by rw [← z]; exact List.mem_map_of_mem hr)) fun r hr => ?_
    have rL : r ∈ L := by rw [eL]; exact List.mem_append_right _ (List.mem_cons_of_mem _ hr)
    exact (D.ne q memq r rL).symm
theorem updateSeq_tup {T : Nat} {arr : Array Value} {x : Value} {k : Nat} {Q : Unit → Shared → Prop} (hT : s.heap.get? T = some { cls := .type "tuple", data := .seq arr }) (hz : arr.size ≤ sizeLine)
    (h : ∀ h', h'.get? T = some { cls := .type "tuple", data := .seq (arr.setIfInBounds k x) } → Heap.SameBut T s.heap h' → Q () { s with heap := h' }) :
    wpAny (model prog w) A (updateSeq T (·.setIfInBounds k x)) Q E s := by
  refine wpAny_updateSeq hT rfl (h _ ?_ (Heap.SameBut.update ..)) (by omega) (by show (arr.setIfInBounds k x).size ≤ _; rw [Array.size_setIfInBounds]; omega)
  rw [Heap.get?_update_self _ hT rfl]
  simp [Obj.mapSeq]
theorem next_held {z TI TO T : Nat} {f : Bool} {oT : Obj} {L : List It} {j : Nat} {vs : List Value} {Q : Value → Shared → Prop} (D : Apart L) (hzL : ∀ q ∈ L, z ≠ q.1 ∧ z ≠ q.2.1)
    (hz : PySem.IsZipHeld s.heap z TI TO T f) (hT : s.heap.get? T = some oT) (hTI : s.heap.get? TI = some { cls := .type "tuple", data := .seq (L.map fun q => Value.ref q.1).toArray })
    (ha : Ats L j s.heap) (hv : vs.length = L.length) (hx : ∀ (k : Nat) q, L[k]? = some q → q.2.2[j]? = vs[k]?) (hne : L ≠ []) (hlen : vs.length ≤ sizeLine)
    (hQ : ∀ h', PySem.IsZipHeld h' z TI TO T true → Ats L (j + 1) h' → h'.get? s.heap.objs.size = some { cls := .type "tuple", data := .seq vs.toArray } → h'.objs.size = s.heap.objs.size + 1 →
      (∀ (c : Nat) o, c ≠ z → (∀ q ∈ L, c ≠ q.1) → s.heap.get? c = some o → h'.get? c = some o) → Q (.ref s.heap.objs.size) { s with heap := h' }) :
    wpAny (model prog w) A (Builtin.«zip.__next__» ⟨[.ref z], []⟩) (fun fin s' => ∃ v, fin = .done (.ret v) ∧ Q v s') E s := by
  show wpAny _ _ (field (.ref z) 2 >>= _) _ _ _
  refine wpAny_bind (wpAny_field hz rfl
    (x := .bool false) rfl ?_)
  show wpAny _ _ (field (.ref z) 3 >>= _) _ _ _
  refine wpAny_bind (wpAny_field hz rfl
    (x := .ref TI) rfl ?_)
  refine wpAny_bind (wpAny_seqItems hTI rfl ?_)
  have hemp : (L.map fun q => Value.ref q.1).toArray.isEmpty = false := by
    cases L with
    | nil => exact absurd rfl hne
    | cons a r => simp
  simp only [hemp, Bool.false_eq_true, if_false]
  show wpAny _ _ (Builtin.SmallTypes.ownedTupleIsFree (.ref z) >>= _) _ _ _
  refine wpAny_bind (PySem.wpAny_tupleHeld_zip hz hT fun h₁ hz₁ hs₁ => ?_)
  simp only [Bool.false_eq_true, if_false]
  refine wpAny_bind ?_
  rw [← Array.forIn_toList]
  refine wpAny_forIn_list _ (fun rest b s' => ∃ L1 L2, Mid (Of L) L j h₁ s L1 L2 s' ∧ rest = L2.map (fun q => Value.ref q.1) ∧ b = (none, (vs.take L1.length).toArray)) _ ?turn ?fin _ _ ?h0
  case h0 =>
    refine ⟨[], L, ⟨rfl, h₁, rfl, ⟨rfl, fun _ _ _ e => e⟩, fun _ h => (nomatch h), ha.other hs₁ (fun q hq => (hzL q hq).1.symm) fun q hq => (hzL q hq).2.symm⟩, by simp, rfl⟩
  case turn =>
    rintro x rest b s' ⟨L1, L2, m, er, rfl⟩
    cases L2 with
    | nil => cases er
    | cons q L2 =>
      have ex : x = Value.ref q.1 := (List.cons.inj er).1
      have er2 : rest = L2.map (fun q => Value.ref q.1) := (List.cons.inj er).2
      subst ex
      have eL := m.1
      have hk : L[L1.length]? = some q := by rw [eL]; simp
      have hlt : L1.length < vs.length := by rw [hv, eL]; simp
      have hv2 : q.2.2[j]? = some vs[L1.length] := by rw [hx _ q hk, List.getElem?_eq_getElem hlt]
      refine wpAny_bind (wpAny_holding ?_)
      show wpAny _ _ (Builtin.SmallTypes.nextOf (.ref q.1) >>= _) _ _ _
      refine wpAny_bind (Mid.next D (fun _ z => z) m hv2 fun s2 m2 _ => wpAny_pure ?_)
      refine wpAny_pure ⟨L1 ++ [q], L2, m2, er2, ?_⟩
      have e : vs.take (L1 ++ [q]).length = vs.take L1.length ++ [vs[L1.length]] := by
        rw [List.length_append, List.length_singleton, List.take_add_one, List.getElem?_eq_getElem hlt]
        rfl
      rw [e]
      simp
  case fin =>
    rintro b s' ⟨L1, L2, ⟨eL, h', rfl, ⟨ksz, kk⟩, a1, a2⟩, er, rfl⟩
    have e2 : L2 = [] := by
      cases L2 with
      | nil => rfl
      | cons q r => cases er
    subst e2
    rw [List.append_nil] at eL
    subst eL
    have ev : vs.take L.length = vs := by rw [← hv]; exact List.take_length
    simp only [ev]
    show wpAny _ _ (newTuple vs.toArray.toList >>= _) _ _ _
    have ev2 : vs.toArray.toList = vs := by simp
    rw [ev2]
    refine wpAny_bind (wpAny_newTuple ?_ (by first | exact hlen | (show vs.length ≤ sizeLine; exact hlen)))
    have hsz : h'.objs.size = s.heap.objs.size := ksz.trans hs₁.1
    refine wpAny_pure ⟨_, rfl, ?_⟩
    show Q (.ref h'.objs.size) _
    have up : ∀ {c o}, h'.get? c = some o → (h'.push { cls := .type "tuple", data := .seq vs.toArray }).get? c = some o := fun e => Heap.get?_push_of_some _ e
    have hp : (h'.push { cls := .type "tuple", data := .seq vs.toArray }).get? h'.objs.size = some { cls := .type "tuple", data := .seq vs.toArray } := Heap.get?_push_size _ rfl
    have hz4 : (h'.push { cls := .type "tuple", data := .seq vs.toArray }).objs.size = h'.objs.size + 1 := Heap.size_push ..
    rw [hsz] at hp hz4 ⊢
    exact hQ _ (up (kk _ _ (not_of fun q hq => (hzL q hq).1) hz₁)) (fun q hq => ⟨(a1 q hq).1.at fun o e => up e, (a1 q hq).2.at fun o e => up e⟩) hp hz4 fun c o c1 c2 e => up (kk c o (not_of c2) (hs₁.extBut _ _ c1 e))
theorem next_held_end {z TI TO T : Nat} {f : Bool} {oT : Obj} {L : List It} {j : Nat} {Q : Fin → Shared → Prop} (hh : A.handled = none) (hzL : ∀ q ∈ L, z ≠ q.1 ∧ z ≠ q.2.1)
    (hz : PySem.IsZipHeld s.heap z TI TO T f) (hT : s.heap.get? T = some oT) (hTI : s.heap.get? TI = some { cls := .type "tuple", data := .seq (L.map fun q => Value.ref q.1).toArray })
    (ha : Ats L j s.heap) (hx : ∀ q ∈ L, q.2.2[j]? = none) (hne : L ≠ [])
    (hE : ∀ h' e, (∀ (c : Nat) o, c ≠ z → (∀ q ∈ L, c ≠ q.1) → s.heap.get? c = some o → h'.get? c = some o) → (∃ o, h'.get? e = some o ∧ o.cls = .type "StopIteration") → E (.ref e) { s with heap := h' }) :
    wpAny (model prog w) A (Builtin.«zip.__next__» ⟨[.ref z], []⟩) Q E s := by
  show wpAny _ _ (field (.ref z) 2 >>= _) _ _ _
  refine wpAny_bind (wpAny_field hz rfl
    (x := .bool false) rfl ?_)
  show wpAny _ _ (field (.ref z) 3 >>= _) _ _ _
  refine wpAny_bind (wpAny_field hz rfl
    (x := .ref TI) rfl ?_)
  refine wpAny_bind (wpAny_seqItems hTI rfl ?_)
  have hemp : (L.map fun q => Value.ref q.1).toArray.isEmpty = false := by
    cases L with
    | nil => exact absurd rfl hne
    | cons a r => simp
  simp only [hemp, Bool.false_eq_true, if_false]
  show wpAny _ _ (Builtin.SmallTypes.ownedTupleIsFree (.ref z) >>= _) _ _ _
  refine wpAny_bind (PySem.wpAny_tupleHeld_zip hz hT fun h₁ hz₁ hs₁ => ?_)
  simp only [Bool.false_eq_true, if_false]
  refine wpAny_bind ?_
  rw [← Array.forIn_toList]
  cases L with
  | nil => exact absurd rfl hne
  | cons q r =>
    simp only [List.map_cons, List.forIn_cons]
    have a1 := ha.other hs₁ (fun q hq => (hzL q hq).1.symm) fun q hq => (hzL q hq).2.symm
    refine wpAny_bind (wpAny_bind (wpAny_holding ?_))
    show wpAny _ _ (Builtin.SmallTypes.nextOf (.ref q.1) >>= _) _ _ _
    refine wpAny_bind (RZ.nextOf_tuple_end (s := { s with heap := h₁ }) hh (a1 q List.mem_cons_self).1 (a1 q List.mem_cons_self).2 (hx q List.mem_cons_self) fun h₂ e hs₂ he => ?_)
    exact hE h₂ e (fun c o c1 c2 x => hs₂ _ _ (c2 q List.mem_cons_self) (hs₁.extBut _ _ c1 x)) he
/-- the first turn: the zip's own tuple is free -/
theorem next_free {z TI TO : Nat} {L : List It} {j : Nat} {vs ws : List Value} {Q : Value → Shared → Prop} (D : Apart L) (hzL : ∀ q ∈ L, z ≠ q.1 ∧ z ≠ q.2.1) (hOL : ∀ q ∈ L, TO ≠ q.1 ∧ TO ≠ q.2.1) (hzO : TO ≠ z)
    (hz : PySem.IsZip s.heap z TI TO .none) (hTI : s.heap.get? TI = some { cls := .type "tuple", data := .seq (L.map fun q => Value.ref q.1).toArray })
    (hTO : s.heap.get? TO = some { cls := .type "tuple", data := .seq ws.toArray }) (hws : ws.length = L.length)
    (ha : Ats L j s.heap) (hv : vs.length = L.length) (hx : ∀ (k : Nat) q, L[k]? = some q → q.2.2[j]? = vs[k]?) (hne : L ≠ []) (hlen : vs.length ≤ sizeLine)
    (hQ : ∀ h', PySem.IsZipHeld h' z TI TO s.heap.objs.size false → Ats L (j + 1) h' → h'.get? s.heap.objs.size = some { cls := .type "tuple", data := .seq vs.toArray } → h'.objs.size = s.heap.objs.size + 1 →
      (∀ (c : Nat) o, c ≠ z → c ≠ TO → (∀ q ∈ L, c ≠ q.1) → s.heap.get? c = some o → h'.get? c = some o) → Q (.ref s.heap.objs.size) { s with heap := h' }) :
    wpAny (model prog w) A (Builtin.«zip.__next__» ⟨[.ref z], []⟩) (fun fin s' => ∃ v, fin = .done (.ret v) ∧ Q v s') E s := by
  show wpAny _ _ (field (.ref z) 2 >>= _) _ _ _
  refine wpAny_bind (wpAny_field hz rfl
    (x := .bool false) rfl ?_)
  show wpAny _ _ (field (.ref z) 3 >>= _) _ _ _
  refine wpAny_bind (wpAny_field hz rfl
    (x := .ref TI) rfl ?_)
  refine wpAny_bind (wpAny_seqItems hTI rfl ?_)
  have hemp : (L.map fun q => Value.ref q.1).toArray.isEmpty = false := by
    cases L with
    | nil => exact absurd rfl hne
    | cons a r => simp
  simp only [hemp, Bool.false_eq_true, if_false]
  show wpAny _ _ (Builtin.SmallTypes.ownedTupleIsFree (.ref z) >>= _) _ _ _
  refine wpAny_bind ?_
  unfold Builtin.SmallTypes.ownedTupleIsFree
  refine wpAny_bind (wpAny_field hz rfl
    (x := .none) rfl (wpAny_pure ?_))
  simp only [if_true]
  refine wpAny_bind (wpAny_rule ?_)
  refine wpAny_bind (wpAny_field hz rfl
    (x := .ref TO) rfl ?_)
  refine wpAny_bind (wpAny_setField_rec hz (by simp) fun h₁ hz₁ hs₁ => ?_)
  replace hz₁ : PySem.IsZip h₁ z TI TO .ellipsis := hz₁
  refine wpAny_bind ?_
  refine wpAny_forIn_list _ (fun rest b s' => ∃ L1 L2, Mid (fun c => c = TO ∨ Of L c) L j h₁ s L1 L2 s' ∧ rest = (L2.map (fun q => Value.ref q.1)).zipIdx L1.length ∧ b = (none, ()) ∧
      s'.heap.get? TO = some { cls := .type "tuple", data := .seq (vs.take L1.length ++ ws.drop L1.length).toArray }) _ ?turn ?fin _ _ ?h0
  case h0 =>
    refine ⟨[], L, ⟨rfl, h₁, rfl, ⟨rfl, fun _ _ _ e => e⟩, fun _ h => (nomatch h), ha.other hs₁ (fun q hq => (hzL q hq).1.symm) fun q hq => (hzL q hq).2.symm⟩, rfl, rfl, ?_⟩
    exact hs₁.extBut _ _ hzO hTO
  case turn =>
    rintro x rest b s' ⟨L1, L2, m, er, rfl, hO⟩
    cases L2 with
    | nil => cases er
    | cons q L2 =>
      rw [List.map_cons, List.zipIdx_cons] at er
      have ex : x = (Value.ref q.1, L1.length) := (List.cons.inj er).1
      have er2 := (List.cons.inj er).2
      subst ex
      have eL := m.1
      have hk : L[L1.length]? = some q := by rw [eL]; simp
      have hlt : L1.length < vs.length := by rw [hv, eL]; simp
      have hltw : L1.length < ws.length := by rw [hws, eL]; simp
      have memq : q ∈ L := by rw [eL]; simp
      have hv2 : q.2.2[j]? = some vs[L1.length] := by rw [hx _ q hk, List.getElem?_eq_getElem hlt]
      refine wpAny_bind (wpAny_onRaise ?_)
      show wpAny _ _ (Builtin.SmallTypes.nextOf (.ref q.1) >>= _) _ _ _
      refine wpAny_bind (Mid.next D (fun _ z => .inr z) m hv2 fun s2 m2 sb => wpAny_pure ?_)
      have hO2 : s2.heap.get? TO = some { cls := .type "tuple", data := .seq (vs.take L1.length ++ ws.drop L1.length).toArray } := sb.extBut _ _ (hOL q memq).1 hO
      refine wpAny_bind (wpAny_seqItems hO2 rfl ?_)
      have le1 : (vs.take L1.length ++ ws.drop L1.length).toArray.size ≤ sizeLine := by
        rw [List.size_toArray, List.length_append, List.length_take, List.length_drop]
        omega
      refine wpAny_bind (updateSeq_tup hO2 le1 fun h3 hO3 sb3 => wpAny_bind (wpAny_letGo (wpAny_pure ?_)))
      obtain ⟨e1, h2, rfl, ⟨ksz, kk⟩, a1, a2⟩ := m2
      have nO : ∀ r ∈ L, r.1 ≠ TO ∧ r.2.1 ≠ TO := fun r hr => ⟨(hOL r hr).1.symm, (hOL r hr).2.symm⟩
      refine ⟨L1 ++ [q], L2, ⟨e1, h3, rfl, ⟨sb3.1.trans ksz, fun c o hc e => sb3.extBut _ _ (fun z => hc (.inl z)) (kk c o hc e)⟩,
        a1.other sb3 (fun r hr => (nO r (by rw [e1]; exact List.mem_append_left _ hr)).1) (fun r hr => (nO r (by rw [e1]; exact List.mem_append_left _ hr)).2),
        a2.other sb3 (fun r hr => (nO r (by rw [e1]; exact List.mem_append_right _ hr)).1) (fun r hr => (nO r (by rw [e1]; exact List.mem_append_right _ hr)).2)⟩, ?_, rfl, ?_⟩
      · rw [er2, List.length_append, List.length_singleton]
      · show h3.get? TO = _
        rw [hO3]
        have e : (vs.take L1.length ++ ws.drop L1.length).toArray.setIfInBounds L1.length vs[L1.length] = (vs.take (L1 ++ [q]).length ++ ws.drop (L1 ++ [q]).length).toArray := by
          rw [List.setIfInBounds_toArray, List.drop_eq_getElem_cons hltw, List.length_append, List.length_singleton, List.take_add_one, List.getElem?_eq_getElem hlt]
          congr 1
          have lt : (vs.take L1.length).length = L1.length := by rw [List.length_take]; omega
          rw [List.set_append_right _ _ (by omega), lt, Nat.sub_self, List.set_cons_zero, List.append_assoc]
          rfl
        rw [e]
  case fin =>
    rintro b s' ⟨L1, L2, ⟨eL, h', rfl, ⟨ksz, kk⟩, a1, a2⟩, er, rfl, hO⟩
    have e2 : L2 = [] := by
      cases L2 with
      | nil => rfl
      | cons q r => cases er
    subst e2
    rw [List.append_nil] at eL
    subst eL
    have ev : vs.take L.length ++ ws.drop L.length = vs := by rw [← hv, List.take_length, hv, ← hws, List.drop_length, List.append_nil]
    rw [ev] at hO
    have hO : h'.get? TO = some { cls := .type "tuple", data := .seq vs.toArray } := hO
    refine wpAny_bind (wpAny_seqItems hO rfl ?_)
    show wpAny _ _ (newTuple vs.toArray.toList >>= _) _ _ _
    have ev2 : vs.toArray.toList = vs := by simp
    rw [ev2]
    refine wpAny_bind (wpAny_newTuple ?_ (by first | exact hlen | (show vs.length ≤ sizeLine; exact hlen)))
    have hsz : h'.objs.size = s.heap.objs.size := ksz.trans hs₁.1
    have nz : ¬ (z = TO ∨ Of L z) := fun h => h.elim (fun e => hzO e.symm) (not_of fun q hq => (hzL q hq).1)
    have hz₅ : PySem.IsZip h' z TI TO .ellipsis := kk _ _ nz hz₁
    have zlt : z < h'.objs.size := Heap.lt_size hz₅
    show wpAny _ _ (Builtin.SmallTypes.ownedTupleHandOut (.ref z) (.ref h'.objs.size) >>= _) _ _ _
    refine wpAny_bind ?_
    unfold Builtin.SmallTypes.ownedTupleHandOut
    have hz₆ : PySem.IsZip (h'.push { cls := .type "tuple", data := .seq vs.toArray }) z TI TO .ellipsis := Heap.get?_push_of_some _ hz₅
    refine wpAny_bind (wpAny_setField_rec hz₆ (by simp) fun h₇ hz₇ hs₇ => ?_)
    replace hz₇ : PySem.IsZip h₇ z TI TO (rawInt h'.objs.size) := hz₇
    refine wpAny_setField_rec hz₇ (by simp) fun h₈ hz₈ hs₈ => ?_
    replace hz₈ : PySem.IsZipHeld h₈ z TI TO h'.objs.size false := hz₈
    have up : ∀ c o, c ≠ z → h'.get? c = some o → h₈.get? c = some o := fun c o c1 e => hs₈.extBut _ _ c1 (hs₇.extBut _ _ c1 (Heap.get?_push_of_some _ e))
    have hT₈ : h₈.get? h'.objs.size = some { cls := .type "tuple", data := .seq vs.toArray } := hs₈.extBut _ _ (Nat.ne_of_gt zlt) (hs₇.extBut _ _ (Nat.ne_of_gt zlt) (Heap.get?_push_size _ rfl))
    have hz8 : h₈.objs.size = h'.objs.size + 1 := by rw [hs₈.1, hs₇.1, Heap.size_push]
    rw [hsz] at hz₈ hT₈ hz8
    refine wpAny_pure ⟨_, rfl, ?_⟩
    show Q (.ref h'.objs.size) _
    rw [hsz]
    exact hQ h₈ hz₈ (fun q hq => ⟨(a1 q hq).1.at fun o e => up _ o (hzL q hq).1.symm e, (a1 q hq).2.at fun o e => up _ o (hzL q hq).2.symm e⟩) hT₈ hz8 fun c o c1 c2 c3 e =>
      up c o c1 (kk c o (fun h => h.elim c2 (not_of c3)) (hs₁.extBut _ _ c1 e))
theorem next_free_end {z TI TO : Nat} {L : List It} {j : Nat} {Q : Fin → Shared → Prop} (hh : A.handled = none) (hzL : ∀ q ∈ L, z ≠ q.1 ∧ z ≠ q.2.1)
    (hz : PySem.IsZip s.heap z TI TO .none) (hTI : s.heap.get? TI = some { cls := .type "tuple", data := .seq (L.map fun q => Value.ref q.1).toArray })
    (ha : Ats L j s.heap) (hx : ∀ q ∈ L, q.2.2[j]? = none) (hne : L ≠ [])
    (hE : ∀ h' e, (∀ (c : Nat) o, c ≠ z → (∀ q ∈ L, c ≠ q.1) → s.heap.get? c = some o → h'.get? c = some o) → (∃ o, h'.get? e = some o ∧ o.cls = .type "StopIteration") → E (.ref e) { s with heap := h' }) :
    wpAny (model prog w) A (Builtin.«zip.__next__» ⟨[.ref z], []⟩) Q E s := by
  show wpAny _ _ (field (.ref z) 2 >>= _) _ _ _
  refine wpAny_bind (wpAny_field hz rfl
    (x := .bool false) rfl ?_)
  show wpAny _ _ (field (.ref z) 3 >>= _) _ _ _
  refine wpAny_bind (wpAny_field hz rfl
    (x := .ref TI) rfl ?_)
  refine wpAny_bind (wpAny_seqItems hTI rfl ?_)
  have hemp : (L.map fun q => Value.ref q.1).toArray.isEmpty = false := by
    cases L with
    | nil => exact absurd rfl hne
    | cons a r => simp
  simp only [hemp, Bool.false_eq_true, if_false]
  show wpAny _ _ (Builtin.SmallTypes.ownedTupleIsFree (.ref z) >>= _) _ _ _
  refine wpAny_bind ?_
  unfold Builtin.SmallTypes.ownedTupleIsFree
  refine wpAny_bind (wpAny_field hz rfl
    (x := .none) rfl (wpAny_pure ?_))
  simp only [if_true]
  refine wpAny_bind (wpAny_rule ?_)
  refine wpAny_bind (wpAny_field hz rfl
    (x := .ref TO) rfl ?_)
  refine wpAny_bind (wpAny_setField_rec hz (by simp) fun h₁ hz₁ hs₁ => ?_)
  replace hz₁ : PySem.IsZip h₁ z TI TO .ellipsis := hz₁
  refine wpAny_bind ?_
  cases L with
  | nil => exact absurd rfl hne
  | cons q r =>
    simp only [List.map_cons, List.zipIdx_cons, List.forIn_cons]
    have a1 := ha.other hs₁ (fun q hq => (hzL q hq).1.symm) fun q hq => (hzL q hq).2.symm
    refine wpAny_bind (wpAny_bind (wpAny_onRaise ?_))
    show wpAny _ _ (Builtin.SmallTypes.nextOf (.ref q.1) >>= _) _ _ _
    refine wpAny_bind (RZ.nextOf_tuple_end (s := { s with heap := h₁ }) hh (a1 q List.mem_cons_self).1 (a1 q List.mem_cons_self).2 (hx q List.mem_cons_self) fun h₂ e hs₂ he => ?_)
    obtain ⟨oe, hoe, hce⟩ := he
    have hz₂ : PySem.IsZip h₂ z TI TO .ellipsis := hs₂ _ _ (hzL q List.mem_cons_self).1 hz₁
    have hez : e ≠ z := fun x => by subst x; rw [hz₂] at hoe; cases hoe; simp at hce
    exact wpAny_setField_rec hz₂ (by simp) fun h₃ _ hs₃ => hE h₃ e (fun c o c1 c2 x => hs₃.extBut _ _ c1 (hs₂ _ _ (c2 q List.mem_cons_self) (hs₁.extBut _ _ c1 x))) ⟨oe, hs₃.extBut _ _ hez hoe, hce⟩
end
end ZS

set_option Elab.async false
set_option maxRecDepth 100000
namespace RX
open PySem PySem.Spec PyProof.Rows L2
section
variable {prog : Program} {w : World} {A : Around} {E : Value → Shared → Prop} {s : Shared}
/-- T(..), T a built-in type made by its own __new__, by what that one does here -/
theorem type_by {T newId : String} {Bn : Builtin} {args : List Value} {Q : Value → Shared → Prop} (ft : TypeCalled T newId "object.__init__")
    (hne : (some newId != some "object.__new__") = true) (hct : checkTypeCall T ⟨args, []⟩ = pure ())
    (hcn : checkBuiltinCall newId ⟨.type T :: args, []⟩ = pure ()) (hok : ∀ obj, argsOk "object.__init__" ⟨obj :: args, []⟩)
    (eN : entryFor table newId = some Bn)
    (hg : wpAny (model prog w) A.in1.in1 (Bn ⟨.type T :: args, []⟩) (fun fin s' => ∃ v, fin = .done (.ret v) ∧ s'.TypeIs v T ∧ Q v s') E s) :
    wpAny (model prog w) A (call (.type T) args) Q E s := by
  obtain ⟨c, tl, m1⟩ := ft.mro
  have m2 := ft.made
  have m3 := ft.sub
  apply wpAny_call
  apply codeAny_of_tree
  show wpAny _ _ (callAny (.type T) _) _ _ _
  refine wpAny_pure ⟨Code.quiet_builtin _
    (by decide +kernel), codeAny_builtin
    F.entry_type_call ?_⟩
  rw [Around.under_plain
    (weight_type_call_type T args [])
    (units_type_call_type T args [])]
  have m4 := ft.notType
  have m5 := ft.canCreate
  repeat (any_goals (first | assumption | wp_step))
  refine codeAny_mono (R := wants (fun v s' => s'.TypeIs v T ∧ Q v s') E) (codeAny_call_builtin
    ft.plain eN (wpAny_of_eq
      hcn (wpAny_mono hg (fun fin s' z => ?_) fun _ _ z => z))) fun r s1 hr => ?_
  · obtain ⟨v, rfl, z⟩ := z
    exact z
  cases r with
  | error e => exact hr
  | ok fl =>
    cases fl with
    | ret obj =>
      obtain ⟨hT, q⟩ := hr
      have n1 := ft.init.lookup
      have n2 := ft.init.bind obj
      repeat (any_goals (first | assumption | wp_step))
      refine codeAny_mono (R := wants (fun v s' => v = .none ∧ Q obj s') E) (codeAny_call_builtin
        ft.init.plain F.entry_object_init
        (ft.init.check _ _ _ _ _ _ _ _ hT (hok obj)
          (object_init_meets (rest := args) n1 m2 hne prog w A.in1 (wants (fun v s' => v = .none ∧ Q obj s') E) s1 ⟨hT, rfl, q⟩))) fun r2 s2 h2 => ?_
      cases r2 with
      | error e => exact h2
      | ok f2 =>
        cases f2 with
        | ret r =>
          obtain ⟨rfl, q2⟩ := h2
          repeat (any_goals (first | assumption | wp_step))
        | next => exact False.elim h2
        | brk => exact False.elim h2
        | cont => exact False.elim h2
    | next => exact False.elim hr
    | brk => exact False.elim hr
    | cont => exact False.elim hr
/-- bool(x), by what x's truth is where bool's own body runs -/
theorem bool_of {x : Value} {Q : Value → Shared → Prop}
    (h : wpAny (model prog w) A.in1.in1 (truthy x) (fun b s' => Q (.bool b) s') E s) :
    wpAny (model prog w) A (call (.type "bool") [x]) Q E s := by
  refine type_by F.called_bool F.newNe_bool (F.typeCall_bool_1 x) (F.newCall_bool_1 x) (fun obj => F.args_object_init_2 obj x) F.entry_bool_new ?_
  have f1 := F.conv_sub_bool
  obtain ⟨hp, g, d, tk, os⟩ := s
  repeat (any_goals (first | assumption | (with_reducible refine wpAny_bind (wpAny_mono h (fun b s' z => ?_) fun _ _ z => z)) | wp_step))
  exact ⟨_, rfl, rfl, z⟩
end
section
variable {X : Cx} {CX : CXT} {k : Nat} {C f : Addr} {fd : FuncData} {ps : List Str} {sp : Sp} {E : XK}
/-- bool(o), o an instance of the class at C, which has the def at f as its __bool__ -/
theorem call_boolOwn (hs : PySem.W.findIn X.K (.ref C) "__bool__" = some (some (.ref f))) (hf : PySem.W.isFn X.K (.ref f) = true) (F : FnOk X.prog X.w X.K X.mg X.base CX k f fd ps sp) (hr : Room (k + 2) X.A) (hb : Binds X.K fd ps []) (hx : Passes CX X E) :
    CallR X (.type "bool") (fun xs H Q => ∃ a dx fs, xs = [.ref a] ∧ H a = some (.ins C dx fs) ∧ sp [.ref a] H (fun v H' => ∃ b, v = .bl b ∧ Q (.bl b) H') E) := by
  intro pins s σ H xs us Q I r h
  obtain ⟨a, dx, fs, rfl, ha, hsp⟩ := h
  obtain rfl := Vals.ref1 r
  obtain ⟨mA, J, _⟩ := ins_get I.hok ha
  obtain ⟨od, J, _⟩ := J.look
  obtain ⟨m, hF⟩ := I.fr
  refine bool_of (PySem.W.truthy_K hF I.ok.mod.kin J hs hf ?_)
  have hl := F.len _ _ _ _ hsp
  refine wpAny_call (codeAny_mono (F.run X.A.in1.in1 X.stack s H ⟨[.ref a], []⟩ [.ref a] [.ref a] _ E hr.in1.in1 I.env0.in1.in1 (by
    have := hb s [.ref a] I.kIn (by simpa using hl)
    simpa using this) (.cons rfl .nil) hsp) fun r' s' hq => ?_)
  cases r' with
  | error e => exact hx pins σ H s e s' I hq
  | ok fl =>
    cases fl with
    | ret u =>
      obtain ⟨z, H', I', rz, b, ez, q⟩ := I.after hq
      subst ez
      cases rz
      exact ⟨.bl b, H', I', rfl, q⟩
    | next => exact False.elim hq
    | brk => exact False.elim hq
    | cont => exact False.elim hq
/-- o == y, o an instance of the class at C, which has the def at f as its __eq__; y of a known type that is not below that class, or of it -/
theorem op_eqOwn (hs : PySem.W.findIn X.K (.ref C) "__eq__" = some (some (.ref f))) (hf : PySem.W.isFn X.K (.ref f) = true) (F : FnOk X.prog X.w X.K X.mg X.base CX k f fd ps sp) (hr : Room k X.A) (hb : Binds X.K fd ps []) (hx : Passes CX X E) :
    OpR X (compareOp .Eq) (fun x y H Q => ∃ a dx fs t, x = .ref a ∧ H a = some (.ins C dx fs) ∧ TyX X.K H y t ∧ PySem.W.notFirst X.K C t = true ∧ sp [.ref a, y] H (fun v H' => ∃ b, v = .bl b ∧ Q (.bl b) H') E) := by
  intro pins s σ H x y v u Q I rx ry h
  obtain ⟨a, dx, fs, t, rfl, ha, ty, hn, hsp⟩ := h
  cases rx
  obtain ⟨mA, J, _⟩ := ins_get I.hok ha
  obtain ⟨od, J, _⟩ := J.look
  obtain ⟨m, hF⟩ := I.fr
  obtain ⟨P, Z, p, _⟩ := kit_of I ry ty
  show wpAny (model X.prog X.w) X.A (richCompare .Eq (.ref a) u) (EP X pins σ Q) X.xe s
  refine PySem.W.cmp_K (op := .Eq) hr.units0 hF I.ok.mod.kin J (Z.ty _ _ I.kIn p) hn hs hf ?_
  refine thn (run_fn (us := [.ref a, u]) (vs := [.ref a, y]) (dvs := []) (ds := []) F hr hb .nil hx I (.cons rfl (.cons ry .nil)) hsp) fun w' s' hq => ?_
  obtain ⟨z, H', I', rz, b, ez, q⟩ := hq
  subst ez
  cases rz
  exact ⟨.bl b, H', I', rfl, q⟩
end
end RX

set_option Elab.async false
set_option maxRecDepth 100000
namespace ZS
open PySem
theorem noLen_zip : typeLookup (.type "zip") "__len__" = pure none := by rw [typeLookup_type, builtinLookup_eq_fast]; kernel_rfl
theorem noHint_zip : typeLookup (.type "zip") "__length_hint__" = pure none := by rw [typeLookup_type, builtinLookup_eq_fast]; kernel_rfl
theorem tc_zip (l : List Value) : checkTypeCall "zip" ⟨l, []⟩ = pure () := by kernel_rfl
theorem nc_zip (a : Value) (l : List Value) : checkBuiltinCall "zip.__new__" ⟨.type "zip" :: a :: l, []⟩ = pure () := by kernel_rfl
theorem oi_any (a : Value) (l : List Value) : argsOk "object.__init__" ⟨a :: l, []⟩ := by unfold argsOk; kernel_rfl
theorem spN {T : String} {name : Str} {s : Shared} {v : Value} {prog : Program} {w : World} {A : Around} {E : Value → Shared → Prop} {Q : Option Value → Shared → Prop} (hT : s.TypeIs v T) (e : typeLookup (.type T) name = pure none) (h : Q none s) :
    wpAny (model prog w) A (specialOf v name) Q E s := wpAny_specialOf hT e h
section
variable {prog : Program} {w : World} {A : Around} {E : Value → Shared → Prop} {s : Shared}
/-- iterators over tuples, one behind the other -/
theorem iterAll_tup {L0 : List (Nat × Array Value)} {Q : List Value → Shared → Prop} (h0 : ∀ q ∈ L0, s.heap.IsTuple q.1 q.2)
    (hQ : ∀ h' (L : List It), L.map (·.2) = L0 → (∀ (k : Nat) q, L[k]? = some q → q.1 = s.heap.objs.size + k) → h'.objs.size = s.heap.objs.size + L0.length →
      (∀ c o, s.heap.get? c = some o → h'.get? c = some o) → Ats L 0 h' → Q (L.map fun q => Value.ref q.1) { s with heap := h' }) :
    wpAny (model prog w) A (Builtin.SmallTypes.iterAll (L0.map fun q => Value.ref q.1)) Q E s := by
  unfold Builtin.SmallTypes.iterAll
  refine wpAny_bind ?_
  refine wpAny_forIn_list _ (fun rest b s' => ∃ (L : List It) (R : List (Nat × Array Value)) (h' : Heap), L0 = L.map (·.2) ++ R ∧ rest = R.map (fun q => Value.ref q.1) ∧ b = (L.map fun q => Value.ref q.1).toArray ∧ s' = { s with heap := h' } ∧
      (∀ (k : Nat) q, L[k]? = some q → q.1 = s.heap.objs.size + k) ∧ h'.objs.size = s.heap.objs.size + L.length ∧ (∀ c o, s.heap.get? c = some o → h'.get? c = some o) ∧ Ats L 0 h') _ ?turn ?fin _ _ ?start
  case start => exact ⟨[], L0, s.heap, rfl, rfl, rfl, rfl, fun k q h => by simp at h, rfl, fun _ _ e => e, fun _ h => nomatch h⟩
  case turn =>
    rintro x rest b s' ⟨L, R, h', eL, er, rfl, rfl, ix, sz, kk, at0⟩
    cases R with
    | nil => cases er
    | cons q R =>
      have ex : x = Value.ref q.1 := (List.cons.inj er).1
      subst ex
      have hq : h'.IsTuple q.1 q.2 := (h0 q (by rw [eL]; simp)).at fun o e => kk _ o e
      refine wpAny_bind (wpAny_holding (wpAny_pyIter_tuple (s := { s with heap := h' }) hq (wpAny_pure ?_)))
      have up : ∀ {c o}, h'.get? c = some o → (h'.push { cls := .type "tuple_iterator", data := .fields #[.ref q.1, .int 0 0] }).get? c = some o := fun e => Heap.get?_push_of_some _ e
      refine ⟨L ++ [(h'.objs.size, q)], R, _, by rw [eL]; simp, (List.cons.inj er).2, by simp, rfl, fun k r hr => ?_, ?_, fun c o e => up (kk c o e), fun r hr => ?_⟩
      · rcases Nat.lt_or_ge k L.length with hk | hk
        · rw [List.getElem?_append_left hk] at hr
          exact ix k r hr
        · rw [List.getElem?_append_right hk] at hr
          have e : k - L.length = 0 := by
            rcases Nat.eq_zero_or_pos (k - L.length) with z | z
            · exact z
            · rw [List.getElem?_eq_none (by rw [List.length_singleton]; omega)] at hr
              cases hr
          rw [e] at hr
          obtain rfl := Option.some.inj hr
          show h'.objs.size = _
          rw [sz]
          omega
      · rw [Heap.size_push, sz, List.length_append, List.length_singleton]
        omega
      · rcases List.mem_append.mp hr with hr | hr
        · exact ⟨(at0 r hr).1.at fun o e => up e, (at0 r hr).2.at fun o e => up e⟩
        · rw [List.mem_singleton] at hr
          subst hr
          exact ⟨⟨_, Heap.get?_push_size _ rfl, rfl, rfl⟩, hq.at fun o e => up e⟩
  case fin =>
    rintro b s' ⟨L, R, h', eL, er, rfl, rfl, ix, sz, kk, at0⟩
    have eR : R = [] := by
      cases R with
      | nil => rfl
      | cons q r => cases er
    subst eR
    rw [List.append_nil] at eL
    refine wpAny_pure ?_
    have e2 : (L.map fun q => Value.ref q.1).toArray.toList = L.map fun q => Value.ref q.1 := by simp
    rw [e2]
    exact hQ h' L eL.symm ix (by rw [sz, eL, List.length_map]) kk at0
/-- what zip(*rows) leaves -/
structure Zip0 (n0 : Nat) (h0 h' : Heap) (L : List It) (L0 : List (Nat × Array Value)) : Prop where
  pr : L.map (·.2) = L0
  ix : ∀ (k : Nat) q, L[k]? = some q → q.1 = n0 + k
  sz : h'.objs.size = n0 + L.length + 3
  kk : ∀ c o, h0.get? c = some o → h'.get? c = some o
  at0 : Ats L 0 h'
  hTI : h'.get? (n0 + L.length) = some { cls := .type "tuple", data := .seq (L.map fun q => Value.ref q.1).toArray }
  hTO : h'.get? (n0 + L.length + 1) = some { cls := .type "tuple", data := .seq (L.map fun _ => Value.none).toArray }
  hz : PySem.IsZip h' (n0 + L.length + 2) (n0 + L.length) (n0 + L.length + 1) .none
theorem zip_call {L0 : List (Nat × Array Value)} {Q : Value → Shared → Prop} (h0 : ∀ q ∈ L0, s.heap.IsTuple q.1 q.2) (hne : L0 ≠ []) (hlen : L0.length ≤ sizeLine)
    (hQ : ∀ h' L, Zip0 s.heap.objs.size s.heap h' L L0 → Q (.ref (s.heap.objs.size + L.length + 2)) { s with heap := h' }) :
    wpAny (model prog w) A (call (.type "zip") (L0.map fun q => Value.ref q.1)) Q E s := by
  obtain ⟨q0, r0, e0⟩ : ∃ a r, (L0.map fun q => Value.ref q.1) = a :: r := by
    cases L0 with
    | nil => exact absurd rfl hne
    | cons a r => exact ⟨_, _, rfl⟩
  refine RX.type_by F.called_zip (by decide) (tc_zip _) (by rw [e0]; exact nc_zip _ _) (fun obj => oi_any _ _) F.entry_zip_new ?_
  have hsub := sub_zip
  obtain ⟨hp, g, d, tk, os⟩ := s
  have step : ∀ {Q' : List Value → Shared → Prop}, (∀ h' (L : List It), L.map (·.2) = L0 → (∀ (k : Nat) q, L[k]? = some q → q.1 = hp.objs.size + k) → h'.objs.size = hp.objs.size + L0.length →
      (∀ c o, hp.get? c = some o → h'.get? c = some o) → Ats L 0 h' → Q' (L.map fun q => Value.ref q.1) ⟨h', g, d, tk, os⟩) → wpAny (model prog w) A.in1.in1 (Builtin.SmallTypes.iterAll (L0.map fun q => Value.ref q.1)) Q' E ⟨hp, g, d, tk, os⟩ := fun k => iterAll_tup (s := ⟨hp, g, d, tk, os⟩) h0 k
  repeat (any_goals (first | assumption | (with_reducible refine step ?_) | wp_step))
  intro h' L pr ix sz kk at0
  have hL : L.length = L0.length := by rw [← pr, List.length_map]
  have fits : (L.map fun q => Value.ref q.1).length ≤ sizeLine := by rw [List.length_map, hL]; exact hlen
  refine wpAny_bind (wpAny_newTuple ?_ fits)
  refine wpAny_bind (wpAny_newTuple ?_ (by rw [List.length_map]; exact fits))
  dsimp only
  repeat (any_goals (first | assumption | wp_step))
  have n1 : h'.objs.size = hp.objs.size + L.length := by rw [sz, hL]
  generalize eA : ({ cls := Value.type "tuple", data := Data.seq (L.map fun q => Value.ref q.1).toArray } : Obj) = oA
  generalize eB : ({ cls := Value.type "tuple", data := Data.seq (List.map (fun _ => Value.none) (L.map fun q => Value.ref q.1)).toArray } : Obj) = oB
  have s1 : (h'.push oA).objs.size = hp.objs.size + L.length + 1 := by rw [Heap.size_push, n1]
  have s2 : ((h'.push oA).push oB).objs.size = hp.objs.size + L.length + 2 := by rw [Heap.size_push, s1]
  have gA : (h'.push oA).get? (hp.objs.size + L.length) = some oA := by rw [← n1]; exact Heap.get?_push_size _ (by rw [← eA]; rfl)
  have gB : ((h'.push oA).push oB).get? (hp.objs.size + L.length + 1) = some oB := by rw [← s1]; exact Heap.get?_push_size _ (by rw [← eB]; rfl)
  rw [s2, s1, n1]
  generalize eZ : ({ cls := Value.type "zip", data := Data.fields (Builtin.SmallTypes.ownedTupleFields ++ [Value.bool false, Value.ref (hp.objs.size + L.length), Value.ref (hp.objs.size + L.length + 1)]).toArray } : Obj) = oZ
  have gZ : (((h'.push oA).push oB).push oZ).get? (hp.objs.size + L.length + 2) = some oZ := by rw [← s2]; exact Heap.get?_push_size _ (by rw [← eZ]; rfl)
  have up : ∀ {c o}, h'.get? c = some o → (((h'.push oA).push oB).push oZ).get? c = some o := fun e => Heap.get?_push_of_some _ (Heap.get?_push_of_some _ (Heap.get?_push_of_some _ e))
  refine ⟨_, rfl, ⟨oZ, gZ, by rw [← eZ]⟩, hQ _ L ⟨pr, ix, by rw [Heap.size_push, s2], fun c o e => up (kk c o e), fun q hq => ⟨(at0 q hq).1.at fun o e => up e, (at0 q hq).2.at fun o e => up e⟩, ?_, ?_, ?_⟩⟩
  · rw [eA]
    exact Heap.get?_push_of_some _ (Heap.get?_push_of_some _ gA)
  · have e : (L.map fun _ => Value.none) = List.map (fun _ => Value.none) (L.map fun q => Value.ref q.1) := by rw [List.map_map]; rfl
    rw [e, eB]
    exact Heap.get?_push_of_some _ gB
  · show _ = some _
    rw [gZ, ← eZ]
    rfl
/-- the state of list(zip(*rows)) behind j turns: the list at q, its tuples from q + 1 on -/
structure Run (n0 : Nat) (h0 : Heap) (L : List It) (cols : Nat → List Value) (j : Nat) (h : Heap) : Prop where
  sz : h.objs.size = n0 + L.length + 4 + j
  kk : ∀ c o, h0.get? c = some o → h.get? c = some o
  at_ : Ats L j h
  hTI : h.get? (n0 + L.length) = some { cls := .type "tuple", data := .seq (L.map fun q => Value.ref q.1).toArray }
  hz : if j = 0 then PySem.IsZip h (n0 + L.length + 2) (n0 + L.length) (n0 + L.length + 1) .none ∧ ∃ ws : List Value, ws.length = L.length ∧ h.get? (n0 + L.length + 1) = some { cls := .type "tuple", data := .seq ws.toArray }
    else ∃ f, PySem.IsZipHeld h (n0 + L.length + 2) (n0 + L.length) (n0 + L.length + 1) (n0 + L.length + 4) f
  hl : ∃ c, h.get? (n0 + L.length + 3) = some { cls := .type "list", data := .seq ((List.range j).map fun i => Value.ref (n0 + L.length + 4 + i)).toArray c }
  ht : ∀ i, i < j → h.get? (n0 + L.length + 4 + i) = some { cls := .type "tuple", data := .seq (cols i).toArray }
/-- where the iterators stand -/
structure Base (n0 : Nat) (h0 : Heap) (L : List It) : Prop where
  n : n0 = h0.objs.size
  ix : ∀ (k : Nat) q, L[k]? = some q → q.1 = n0 + k
  tp : ∀ q ∈ L, h0.IsTuple q.2.1 q.2.2
theorem Base.lt {n0 : Nat} {h0 : Heap} {L : List It} (B : Base n0 h0 L) {q : It} (h : q ∈ L) : n0 ≤ q.1 ∧ q.1 < n0 + L.length ∧ q.2.1 < n0 := by
  obtain ⟨k, hk, e⟩ := List.getElem_of_mem h
  have e2 : @Eq Nat q.1 (n0 + k) := B.ix k q (by rw [List.getElem?_eq_getElem hk, e])
  obtain ⟨o, ho, _⟩ := B.tp q h
  have e3 : @LT.lt Nat _ q.2.1 h0.objs.size := Heap.lt_size ho
  have e4 : @Eq Nat n0 h0.objs.size := B.n
  omega
theorem Base.apart {n0 : Nat} {h0 : Heap} {L : List It} (B : Base n0 h0 L) : Apart L := by
  refine ⟨?_, fun q hq r hr e => ?_⟩
  · rw [List.nodup_iff_pairwise_ne, List.pairwise_iff_getElem]
    intro i j hi hj hij
    rw [List.length_map] at hi hj
    rw [List.getElem_map, List.getElem_map]
    have a := B.ix i L[i] (List.getElem?_eq_getElem hi)
    have b := B.ix j L[j] (List.getElem?_eq_getElem hj)
    omega
  · have a := B.lt hq
    have b := B.lt hr
    omega
/-- one next of it -/
theorem run_next {n0 : Nat} {h0 : Heap} {L : List It} {cols : Nat → List Value} {j : Nat} {Q : Option Value → Shared → Prop} (B : Base n0 h0 L) (r : Run n0 h0 L cols j s.heap) (hne : L ≠ []) (hlen : L.length ≤ sizeLine)
    (hc : (cols j).length = L.length) (hx : ∀ (k : Nat) q, L[k]? = some q → q.2.2[j]? = (cols j)[k]?)
    (hQ : ∀ h', (h'.objs.size = n0 + L.length + 4 + (j + 1)) → (∀ c o, h0.get? c = some o → h'.get? c = some o) → Ats L (j + 1) h' → h'.get? (n0 + L.length) = some { cls := .type "tuple", data := .seq (L.map fun q => Value.ref q.1).toArray } →
      (∃ f, PySem.IsZipHeld h' (n0 + L.length + 2) (n0 + L.length) (n0 + L.length + 1) (n0 + L.length + 4) f) →
      (∃ c, h'.get? (n0 + L.length + 3) = some { cls := .type "list", data := .seq ((List.range j).map fun i => Value.ref (n0 + L.length + 4 + i)).toArray c }) →
      (∀ i, i < j + 1 → h'.get? (n0 + L.length + 4 + i) = some { cls := .type "tuple", data := .seq (cols i).toArray }) → Q (some (.ref (n0 + L.length + 4 + j))) { s with heap := h' }) :
    wpAny (model prog w) A (pyNext (.ref (n0 + L.length + 2))) Q E s := by
  have lt := fun {q} (hq : q ∈ L) => B.lt hq
  have old : ∀ {c : Nat} {o}, h0.get? c = some o → c < n0 := fun e => by rw [B.n]; exact Heap.lt_size e
  have nin : ∀ {c : Nat}, (c < n0 ∨ n0 + L.length ≤ c) → ∀ q ∈ L, c ≠ q.1 := fun h q hq e => by have := lt hq; omega
  have zL : ∀ q ∈ L, n0 + L.length + 2 ≠ q.1 ∧ n0 + L.length + 2 ≠ q.2.1 := fun q hq => by have := lt hq; omega
  have hz := r.hz
  have hT : s.TypeIs (.ref (n0 + L.length + 2)) "zip" := by
    split at hz
    · exact ⟨_, hz.1, rfl⟩
    · obtain ⟨f, hz⟩ := hz
      exact ⟨_, hz, rfl⟩
  unfold pyNext
  refine wpAny_bind (wpAny_attempt (wpAny_callSpecial?_slot (name := Str.ofString "__next__") hT F.slot_zip_next
    (wpAny_call_entry F.slot_zip_next hT F.entry_zip_next ?_ (F.args_zip_next_1 _))))
  obtain ⟨cp, hl⟩ := r.hl
  by_cases j0 : j = 0
  · subst j0
    rw [if_pos rfl] at hz
    obtain ⟨hz, ws, hws, hTO⟩ := hz
    refine next_free B.apart zL (fun q hq => by have := lt hq; omega) (by omega) hz r.hTI hTO hws r.at_ hc hx hne (by rw [hc]; exact hlen) fun h' a1 a2 a3 a4 a5 => wpAny_pure ?_
    have sz := r.sz
    rw [sz] at a1 a3 a4 ⊢
    refine hQ h' (by omega) (fun c o e => a5 c o (by have := old e; omega) (by have := old e; omega) (nin (.inl (old e))) (r.kk c o e)) a2 (a5 _ _ (by omega) (by omega) (nin (.inr (by omega))) r.hTI) ⟨_, a1⟩
      ⟨cp, a5 _ _ (by omega) (by omega) (nin (.inr (by omega))) hl⟩ fun i hi => ?_
    have : i = 0 := by omega
    subst this
    exact a3
  · rw [if_neg j0] at hz
    obtain ⟨f, hz⟩ := hz
    refine next_held B.apart zL hz (r.ht 0 (by omega)) r.hTI r.at_ hc hx hne (by rw [hc]; exact hlen) fun h' a1 a2 a3 a4 a5 => wpAny_pure ?_
    have sz := r.sz
    rw [sz] at a3 a4 ⊢
    refine hQ h' (by omega) (fun c o e => a5 c o (by have := old e; omega) (nin (.inl (old e))) (r.kk c o e)) a2 (a5 _ _ (by omega) (nin (.inr (by omega))) r.hTI) ⟨_, a1⟩
      ⟨cp, a5 _ _ (by omega) (nin (.inr (by omega))) hl⟩ fun i hi => ?_
    rcases Nat.lt_or_ge i j with z | z
    · exact a5 _ _ (by omega) (nin (.inr (by omega))) (r.ht i z)
    · have : i = j := by omega
      subst this
      exact a3
/-- the last next -/
theorem run_end {n0 : Nat} {h0 : Heap} {L : List It} {cols : Nat → List Value} {j : Nat} {Q : Option Value → Shared → Prop} (hh : A.handled = none) (B : Base n0 h0 L) (r : Run n0 h0 L cols j s.heap) (hne : L ≠ [])
    (hx : ∀ q ∈ L, q.2.2[j]? = none)
    (hQ : ∀ h', (∀ c o, h0.get? c = some o → h'.get? c = some o) → (∃ c, h'.get? (n0 + L.length + 3) = some { cls := .type "list", data := .seq ((List.range j).map fun i => Value.ref (n0 + L.length + 4 + i)).toArray c }) →
      (∀ i, i < j → h'.get? (n0 + L.length + 4 + i) = some { cls := .type "tuple", data := .seq (cols i).toArray }) → Q none { s with heap := h' }) :
    wpAny (model prog w) A (pyNext (.ref (n0 + L.length + 2))) Q E s := by
  have lt := fun {q} (hq : q ∈ L) => B.lt hq
  have old : ∀ {c : Nat} {o}, h0.get? c = some o → c < n0 := fun e => by rw [B.n]; exact Heap.lt_size e
  have nin : ∀ {c : Nat}, (c < n0 ∨ n0 + L.length ≤ c) → ∀ q ∈ L, c ≠ q.1 := fun h q hq e => by have := lt hq; omega
  have zL : ∀ q ∈ L, n0 + L.length + 2 ≠ q.1 ∧ n0 + L.length + 2 ≠ q.2.1 := fun q hq => by have := lt hq; omega
  have hz := r.hz
  have hT : s.TypeIs (.ref (n0 + L.length + 2)) "zip" := by
    split at hz
    · exact ⟨_, hz.1, rfl⟩
    · obtain ⟨f, hz⟩ := hz
      exact ⟨_, hz, rfl⟩
  obtain ⟨cp, hl⟩ := r.hl
  unfold pyNext
  refine wpAny_bind (wpAny_attempt (wpAny_callSpecial?_slot (name := Str.ofString "__next__") hT F.slot_zip_next
    (wpAny_call_entry F.slot_zip_next hT F.entry_zip_next ?_ (F.args_zip_next_1 _))))
  by_cases j0 : j = 0
  · subst j0
    rw [if_pos rfl] at hz
    obtain ⟨hz, ws, hws, hTO⟩ := hz
    refine next_free_end hh zL hz r.hTI r.at_ hx hne fun h' e k he => ?_
    obtain ⟨o, ho, hc⟩ := he
    refine wpAny_bind (wpAny_isInstance (T := "StopIteration") (b := true)
      ⟨o, ho, hc⟩ isSubtype_stop ?_)
    exact wpAny_pure (hQ h' (fun c o e => k c o (by have := old e; omega) (nin (.inl (old e))) (r.kk c o e)) ⟨cp, k _ _ (by omega) (nin (.inr (by omega))) hl⟩ fun i hi => k _ _ (by omega) (nin (.inr (by omega))) (r.ht i hi))
  · rw [if_neg j0] at hz
    obtain ⟨f, hz⟩ := hz
    refine next_held_end hh zL hz (r.ht 0 (by omega)) r.hTI r.at_ hx hne fun h' e k he => ?_
    obtain ⟨o, ho, hc⟩ := he
    refine wpAny_bind (wpAny_isInstance (T := "StopIteration") (b := true)
      ⟨o, ho, hc⟩ isSubtype_stop ?_)
    exact wpAny_pure (hQ h' (fun c o e => k c o (by have := old e; omega) (nin (.inl (old e))) (r.kk c o e)) ⟨cp, k _ _ (by omega) (nin (.inr (by omega))) hl⟩ fun i hi => k _ _ (by omega) (nin (.inr (by omega))) (r.ht i hi))
end
end ZS

set_option Elab.async false
set_option maxRecDepth 100000
namespace ZS
open PySem
section
variable {prog : Program} {w : World} {A : Around} {E : Value → Shared → Prop} {s : Shared}
theorem ext_loop {n0 : Nat} {h0 : Heap} {L : List It} {cols : Nat → List Value} {W : Nat} {Rs : Result → Shared → Prop} (hh : A.handled = none) (B : Base n0 h0 L) (hne : L ≠ []) (hlen : L.length ≤ sizeLine) (hW : W < sizeLine)
    (hc : ∀ j, j < W → (cols j).length = L.length ∧ ∀ (k : Nat) q, L[k]? = some q → q.2.2[j]? = (cols j)[k]?) (hx : ∀ q ∈ L, q.2.2[W]? = none)
    (hQ : ∀ h', (∀ c o, h0.get? c = some o → h'.get? c = some o) → (∃ c, h'.get? (n0 + L.length + 3) = some { cls := .type "list", data := .seq ((List.range W).map fun i => Value.ref (n0 + L.length + 4 + i)).toArray c }) →
      (∀ i, i < W → h'.get? (n0 + L.length + 4 + i) = some { cls := .type "tuple", data := .seq (cols i).toArray }) → Rs (.ok (.ret .none)) { s with heap := h' }) :
    ∀ (d j : Nat) (h : Heap), W - j = d → j ≤ W → Run n0 h0 L cols j h →
      codeAny (model prog w) A (.builtin "list.extend.loop" ⟨[.ref (n0 + L.length + 3), .ref (n0 + L.length + 2), .none], []⟩) Rs { s with heap := h } := by
  intro d
  induction d with
  | zero =>
    intro j h hd hj r
    have e : j = W := by omega
    subst e
    apply codeAny_builtin PySem.F.entry_extend_loop
    rw [Around.under_plainId
      PySem.F.plain_extend_loop _]
    show wpAny _ A.in1 (pyNext (.ref (n0 + L.length + 2)) >>= _) _ _ _
    refine wpAny_bind (run_end (s := { s with heap := h }) hh B r hne hx fun h' k1 k2 k3 => ?_)
    exact wpAny_pure (hQ h' k1 k2 k3)
  | succ d ih =>
    intro j h hd hj r
    have lt : j < W := by omega
    apply codeAny_builtin PySem.F.entry_extend_loop
    rw [Around.under_plainId
      PySem.F.plain_extend_loop _]
    show wpAny _ A.in1 (pyNext (.ref (n0 + L.length + 2)) >>= _) _ _ _
    refine wpAny_bind (run_next (s := { s with heap := h }) B r hne hlen (hc j lt).1 (hc j lt).2 fun h' k1 k2 k3 k4 k5 k6 k7 => ?_)
    show wpAny _ A.in1 (updateSeq (n0 + L.length + 3) (·.push (.ref (n0 + L.length + 4 + j))) >>= _) _ _ _
    obtain ⟨c, hl⟩ := k6
    have szl : ((List.range j).map fun i => Value.ref (n0 + L.length + 4 + i)).toArray.size = j := by simp
    have gl := Heap.get?_update_self (Obj.mapSeq (·.push (Value.ref (n0 + L.length + 4 + j)))) hl rfl
    have sb : Heap.SameBut (n0 + L.length + 3) h' (h'.update (n0 + L.length + 3) (Obj.mapSeq (·.push (Value.ref (n0 + L.length + 4 + j))))) := Heap.SameBut.update ..
    refine wpAny_bind (wpAny_updateSeq hl rfl (wpAny_pure ⟨plainId_quiet
      PySem.F.plain_extend_loop _, ?_⟩) (by rw [szl]; omega) (by show (Array.push _ _).size ≤ _; rw [Array.size_push, szl]; omega))
    refine ih (j + 1) _ (by omega) (by omega) ⟨sb.1.trans k1, fun c o e => sb.extBut _ _ ?_ (k2 c o e), ?_, sb.extBut _ _ (by show @Ne Nat _ _; omega) k4, ?_, ?_, fun i hi => sb.extBut _ _ (by show @Ne Nat _ _; omega) (k7 i hi)⟩
    · have e2 : @LT.lt Nat _ c h0.objs.size := Heap.lt_size e
      have e3 : @Eq Nat n0 h0.objs.size := B.n
      show @Ne Nat _ _
      omega
    · exact k3.other sb (fun q hq => by have := B.lt hq; omega) fun q hq => by have := B.lt hq; omega
    · rw [if_neg (by omega)]
      obtain ⟨f, hz⟩ := k5
      exact ⟨f, sb.extBut _ _ (by show @Ne Nat _ _; omega) hz⟩
    · rw [List.range_succ, List.map_append]
      refine ⟨c + 1, gl.trans ?_⟩
      have ne : ((((List.range j).map fun i => Value.ref (n0 + L.length + 4 + i)).toArray.push (Value.ref (n0 + L.length + 4 + j))).size == ((List.range j).map fun i => Value.ref (n0 + L.length + 4 + i)).toArray.size) = false := by
        rw [Array.size_push]
        simp
      show some ({ cls := _, dict := _, data := .seq _ (if _ then _ else _), slots := _ } : Obj) = _
      rw [ne]
      simp
/-- list(z), z the zip that was just made over tuples of W items each -/
theorem list_zip {n0 : Nat} {h0 : Heap} {L : List It} {L0 : List (Nat × Array Value)} {cols : Nat → List Value} {W : Nat} {Q : Value → Shared → Prop} (hh : A.handled = none) (n0e : n0 = h0.objs.size) (h0t : ∀ q ∈ L0, h0.IsTuple q.1 q.2)
    (Z : Zip0 n0 h0 s.heap L L0) (hne : L ≠ []) (hlen : L.length ≤ sizeLine) (hW : W < sizeLine)
    (hc : ∀ j, j < W → (cols j).length = L.length ∧ ∀ (k : Nat) q, L[k]? = some q → q.2.2[j]? = (cols j)[k]?) (hx : ∀ q ∈ L, q.2.2[W]? = none)
    (hQ : ∀ h' tk, (∀ c o, h0.get? c = some o → h'.get? c = some o) → (∃ c, h'.get? (n0 + L.length + 3) = some { cls := .type "list", data := .seq ((List.range W).map fun i => Value.ref (n0 + L.length + 4 + i)).toArray c }) →
      (∀ i, i < W → h'.get? (n0 + L.length + 4 + i) = some { cls := .type "tuple", data := .seq (cols i).toArray }) → Q (.ref (n0 + L.length + 3)) { s with heap := h', toks := tk }) :
    wpAny (model prog w) A (call (.type "list") [.ref (n0 + L.length + 2)]) Q E s := by
  have B : Base n0 h0 L := ⟨n0e, Z.ix, fun q hq => by
    have e : q.2 ∈ L0 := by rw [← Z.pr]; exact List.mem_map_of_mem hq
    exact h0t _ e⟩
  have sz := Z.sz
  refine callType_codes (Q₁ := fun obj s₁ => obj = .ref s.heap.objs.size ∧ s₁ = { s with heap := s.heap.push { cls := .type "list", data := .seq #[] } })
    PySem.F.called_list (PySem.F.typeCall_list_1 _)
    PySem.F.entry_list_init (code_list_new _ ⟨rfl, rfl⟩) fun obj s₁ h₁ => ?_
  obtain ⟨rfl, rfl⟩ := h₁
  have gS : (s.heap.push { cls := .type "list", data := .seq #[] }).get? s.heap.objs.size = some { cls := .type "list", data := .seq #[] } := Heap.get?_push_size _ rfl
  refine ⟨⟨_, gS, rfl⟩, PySem.F.args_list_init_2 _ _, ?_⟩
  show wpAny _ _ (do
    let old ← Builtin.List.listItems (.ref s.heap.objs.size)
    Builtin.List.listUpdate (.ref s.heap.objs.size) (fun _ => #[])
    letGo old.toList.reverse
    Builtin.List.listExtendWith (.ref s.heap.objs.size) (.ref (n0 + L.length + 2)) .none) _ _ _
  refine wpAny_bind ?_
  unfold Builtin.List.listItems
  refine wpAny_bind (wpAny_seqItems gS rfl (wpAny_pure ?_))
  show wpAny _ _ (updateSeq s.heap.objs.size (fun _ => #[])
    >>= fun _ => letGo (#[] : Array Value).toList.reverse
    >>= fun _ => Builtin.List.listExtendWith (.ref s.heap.objs.size) (.ref (n0 + L.length + 2)) .none) _ _ _
  -- the list is emptied
  have u1 := Heap.get?_update_self (Obj.mapSeq (fun _ => (#[] : Array Value))) gS rfl
  have b1 : Heap.SameBut s.heap.objs.size (s.heap.push { cls := .type "list", data := .seq #[] }) ((s.heap.push { cls := .type "list", data := .seq #[] }).update s.heap.objs.size (Obj.mapSeq fun _ => #[])) := Heap.SameBut.update ..
  refine wpAny_bind (wpAny_updateSeq gS rfl ?_)
  refine wpAny_bind (wpAny_letGo ?_)
  have u1 : ((s.heap.push { cls := .type "list", data := .seq #[] }).update s.heap.objs.size (Obj.mapSeq fun _ => #[])).get? s.heap.objs.size = some { cls := .type "list", data := .seq #[] } := u1
  have kk1 : ∀ c o, s.heap.get? c = some o → ((s.heap.push { cls := .type "list", data := .seq #[] }).update s.heap.objs.size (Obj.mapSeq fun _ => #[])).get? c = some o := fun c o e =>
    b1.extBut _ _ (Nat.ne_of_lt (Heap.lt_size e)) (Heap.get?_push_of_some _ e)
  have sz1 : ((s.heap.push { cls := .type "list", data := .seq #[] }).update s.heap.objs.size (Obj.mapSeq fun _ => #[])).objs.size = n0 + L.length + 4 := by rw [b1.1, Heap.size_push, sz]
  generalize (s.heap.push { cls := .type "list", data := .seq #[] }).update s.heap.objs.size (Obj.mapSeq fun _ => #[]) = hA at u1 kk1 sz1
  rw [sz] at u1 ⊢
  have hz := kk1 _ _ Z.hz
  unfold Builtin.List.listExtendWith
  refine wpAny_bind (wpAny_typeOf_ref hz ?_)
  have g1 : Builtin.List.listSameRef (.ref (n0 + L.length + 3)) (.ref (n0 + L.length + 2)) = false := by simp [Builtin.List.listSameRef]
  have g2 : (Value.type "zip" == Value.type "list") = false := by decide
  have g3 : (Value.type "zip" == Value.type "tuple") = false := by decide
  simp only [g1, g2, g3, Bool.or_false, Bool.false_eq_true, if_false]
  refine wpAny_bind (wpAny_pyIter_zip hz ?_)
  have hT : ∀ {g d tk os}, (⟨hA, g, d, tk, os⟩ : Shared).TypeIs (.ref (n0 + L.length + 2)) "zip" := ⟨_, hz, rfl⟩
  refine wpAny_bind (wpAny_holding ?_)
  unfold Builtin.List.listLengthHint
  refine wpAny_bind (wpAny_specialOf hT noLen_zip ?_)
  refine PySem.W.KFB.if_not rfl ?_
  refine PySem.W.KFB.if_not rfl ?_
  refine wpAny_bind (wpAny_specialOf hT noHint_zip (wpAny_pure ?_))
  have start : ∀ (h : Heap), h.objs.size = n0 + L.length + 4 → (∀ c o, s.heap.get? c = some o → h.get? c = some o) → (∃ c, h.get? (n0 + L.length + 3) = some { cls := .type "list", data := .seq #[] c }) → Run n0 h0 L cols 0 h := fun h e k ⟨c, l⟩ =>
    ⟨e, fun c o q => k c o (Z.kk c o q), fun q hq => ⟨(Z.at0 q hq).1.at fun o e => k _ _ e, (Z.at0 q hq).2.at fun o e => k _ _ e⟩, k _ _ Z.hTI, by rw [if_pos rfl]; exact ⟨k _ _ Z.hz, _, by rw [List.length_map], k _ _ Z.hTO⟩, ⟨c, l⟩, fun i hi => absurd hi (Nat.not_lt_zero _)⟩
  have loop : ∀ (h : Heap), Run n0 h0 L cols 0 h → codeAny (model prog w) A.in1 (.builtin "list.extend.loop" ⟨[.ref (n0 + L.length + 3), .ref (n0 + L.length + 2), .none], []⟩) (wants (fun r s₂ => r = .none ∧ Q (.ref (n0 + L.length + 3)) s₂) E) { s with heap := h } := fun h r =>
    ext_loop (s := s) (A := A.in1) hh B hne hlen hW hc hx (fun h' k1 k2 k3 => ⟨rfl, hQ h' s.toks k1 k2 k3⟩) W 0 h rfl (Nat.zero_le _) r
  refine wpAny_ite_split (fun _ => ?_) (fun _ => wpAny_pure ⟨plainId_quiet PySem.F.plain_extend_loop _, loop hA (start hA sz1 kk1 ⟨_, u1⟩)⟩)
  refine wpAny_bind (wpAny_rule ?_)
  refine wpAny_bind ?_
  show wpAny _ _ (updateSeq (n0 + L.length + 3) (·.push .none)
    >>= fun _ => updateSeq (n0 + L.length + 3) (·.pop)) _ _ _
  have v1 := Heap.get?_update_self (Obj.mapSeq (·.push Value.none)) u1 rfl
  have c1 : Heap.SameBut (n0 + L.length + 3) hA (hA.update (n0 + L.length + 3) (Obj.mapSeq (·.push Value.none))) := Heap.SameBut.update ..
  refine wpAny_bind (wpAny_updateSeq u1 rfl ?_)
  have v1 : (hA.update (n0 + L.length + 3) (Obj.mapSeq (·.push Value.none))).get? (n0 + L.length + 3) = some { cls := .type "list", data := .seq #[.none] 1 } := v1
  generalize hA.update (n0 + L.length + 3) (Obj.mapSeq (·.push Value.none)) = hB at v1 c1
  have v2 := Heap.get?_update_self (Obj.mapSeq (·.pop)) v1 rfl
  have c2 : Heap.SameBut (n0 + L.length + 3) hB (hB.update (n0 + L.length + 3) (Obj.mapSeq (·.pop))) := Heap.SameBut.update ..
  refine wpAny_updateSeq v1 rfl ?_ (by show 1 ≤ sizeLine; decide) (by show 0 ≤ sizeLine + 1; exact Nat.zero_le _)
  have v2 : (hB.update (n0 + L.length + 3) (Obj.mapSeq (·.pop))).get? (n0 + L.length + 3) = some { cls := .type "list", data := .seq #[] 2 } := v2
  generalize hB.update (n0 + L.length + 3) (Obj.mapSeq (·.pop)) = hC at v2 c2
  refine wpAny_pure ⟨plainId_quiet PySem.F.plain_extend_loop _, loop hC (start hC (by rw [c2.1, c1.1, sz1]) (fun c o e => ?_) ⟨_, v2⟩)⟩
  have e2 : @LT.lt Nat _ c s.heap.objs.size := Heap.lt_size e
  have ne : c ≠ n0 + L.length + 3 := by
    show @Ne Nat _ _
    rw [sz] at e2
    omega
  exact c2.extBut _ _ ne (c1.extBut _ _ ne (kk1 _ _ e))
end
end ZS

set_option Elab.async false
set_option maxRecDepth 100000
namespace ZS
open PySem PySem.Spec L2
/-- H, and what m tells -/
def over (H : Hp) (m : Addr → Option HO) : Hp := fun b => match m b with | some o => some o | none => H b
theorem over_some {H : Hp} {m : Addr → Option HO} {b : Addr} {o : HO} (h : m b = some o) : over H m b = some o := by unfold over; rw [h]
theorem over_none {H : Hp} {m : Addr → Option HO} {b : Addr} (h : m b = none) : over H m b = H b := by unfold over; rw [h]
section
variable {X : Cx} {pins : List (Addr × Obj)} {σ : St} {H : Hp} {s : Shared} {h' : Heap}
theorem laid_all {m : Addr → Option HO} {t' : Nat} (I : Inv X pins σ H s) (k : ∀ b u, s.heap.get? b = some u → h'.get? b = some u) (hm : ∀ b o, m b = some o → s.heap.objs.size ≤ b)
    (new : ∀ (b : Addr) (o : HO), m b = some o → ObjOk X.prog X.w (over H m) h' b o) : Inv X pins σ (over H m) { s with heap := h', toks := t' } := by
  have fr : ∀ {b o}, m b = some o → H b = none := fun e => I.hok.fresh (hm _ _ e)
  have ov : ∀ {b u}, H b = some u → over H m b = some u := fun {b u} e => by
    cases q : m b with
    | none => rw [over_none q]; exact e
    | some o => rw [fr q] at e; cases e
  have U : Un X.fs [] H (over H m) s.heap h' := {
    keep := fun b u q _ _ _ => k b u q
    slot := fun b u q _ _ _ => ⟨u.slots, k b u q⟩
    free := fun b u q n _ => by
      cases e : m b with
      | none => rw [over_none e]; exact n
      | some o => exact absurd (Heap.lt_size q) (Nat.not_lt.mpr (hm _ _ e))
    there := fun b u q _ => ⟨u, k b u q⟩
    tups := fun b xs q => ov q
    frzs := fun b u xs q => ov q
    tbls := fun b ps q => ⟨#[], by rw [ov q]; simp⟩ }
  refine I.un (t' := t') U fun b u e => ?_
  cases q : m b with
  | some o =>
    rw [over_some q] at e
    cases e
    exact new b _ q
  | none =>
    rw [over_none q] at e
    exact (I.hok b u e).stay (fun c v _ z => k c v z) (fun c z => ov z) fun c xs z => ov z
end
theorem paired_map {α β γ δ : Type} {R : α → β → Prop} {S : γ → δ → Prop} {f : α → γ} {g : β → δ} (h : ∀ a b, R a b → S (f a) (g b)) : ∀ {xs : List α} {ys : List β}, Paired R xs ys → Paired S (xs.map f) (ys.map g)
  | _, _, .nil => .nil
  | _, _, .cons r t => .cons (h _ _ r) (paired_map h t)
theorem getD_rel {c : List V} {us : List Value} (r : Vals c us) (j : Nat) : RelV (c.getD j .non) (us.getD j .none) := by
  rw [List.getD_eq_getElem?_getD, List.getD_eq_getElem?_getD]
  cases e : c[j]? with
  | some x =>
    obtain ⟨u, hu, ru⟩ := r.get e
    rw [hu]
    exact ru
  | none =>
    have hl := r.length
    have : us[j]? = none := by
      rw [List.getElem?_eq_none_iff] at e ⊢
      omega
    rw [this]
    rfl
/-- list(zip(star e)), e a tuple of rows, not empty, each with W items -/
def tZipS (K : PySem.W.Frag) (te : TE) : TE := fun σ H Q => te σ H fun x H1 => ∃ (p : Addr) (rows : List Addr) (cells : List (List V)) (W : Nat), x = .ref p ∧ SqT K H1 p (rows.map V.ref) ∧ rows ≠ [] ∧ rows.length ≤ 1000 ∧ W ≤ 1000 ∧
  Paired (fun r c => H1 r = some (.tup c) ∧ c.length = W) rows cells ∧
  ∀ (l : Addr) (ts : List Addr) (H2 : Hp), Same H1 H2 → H1 l = none → ts.length = W → H2 l = some (.lst (ts.map V.ref)) → (∀ (j : Nat) t, ts[j]? = some t → H1 t = none ∧ H2 t = some (.tup (cells.map fun c => c.getD j .non))) → Q (.ref l) H2
section
variable {X : Cx} {pins : List (Addr × Obj)} {σ : St} {H : Hp} {s : Shared}
theorem rows_at (I : Inv X pins σ H s) {W : Nat} : ∀ {rows : List Addr} {cells : List (List V)}, Paired (fun r c => H r = some (.tup c) ∧ c.length = W) rows cells →
    ∃ L0 : List (Nat × Array Value), L0.map (·.1) = rows ∧ Paired (fun c (q : Nat × Array Value) => Vals c q.2.toList ∧ q.2.size = W) cells L0 ∧ ∀ q ∈ L0, s.heap.IsTuple q.1 q.2
  | _, _, .nil => ⟨[], rfl, .nil, fun _ h => nomatch h⟩
  | r :: _, _, .cons ⟨hr, hl⟩ t => by
    obtain ⟨L0, e, P, ht⟩ := rows_at I t
    obtain ⟨its, rv, it, _⟩ := I.tuple (SqT.of hr)
    refine ⟨(r, its.toArray) :: L0, by rw [List.map_cons, e], .cons ⟨by simpa using rv, ?_⟩ P, fun q hq => ?_⟩
    · rw [List.size_toArray, ← rv.length]; exact hl
    · rcases List.mem_cons.mp hq with e | hq
      · rw [e]; exact it
      · exact ht q hq
theorem vals_refs : ∀ {rows : List Addr} {us : List Value}, Vals (rows.map V.ref) us → us = rows.map Value.ref
  | [], _, .nil => rfl
  | r :: rows, _, .cons e t => by
    have e1 : _ = Value.ref r := e
    rw [e1, vals_refs t]
    rfl
theorem paired_of_map {W : Nat} : ∀ {L : List It} {cells : List (List V)}, Paired (fun c (q : Nat × Array Value) => Vals c q.2.toList ∧ q.2.size = W) cells (L.map (·.2)) → Paired (fun c (q : It) => Vals c q.2.2.toList ∧ q.2.2.size = W) cells L
  | [], _, .nil => .nil
  | _ :: _, _, .cons a b => .cons a (paired_of_map b)
theorem paired_size {W : Nat} : ∀ {L : List It} {cells : List (List V)}, Paired (fun c (q : It) => Vals c q.2.2.toList ∧ q.2.2.size = W) cells L → ∀ q ∈ L, q.2.2.size = W
  | _, _, .nil, q, h => nomatch h
  | _, _, .cons a b, q, hq => by
    rcases List.mem_cons.mp hq with e | hq
    · rw [e]; exact a.2
    · exact paired_size b q hq
theorem vals_range (b : Nat) : ∀ l : List Nat, Vals (l.map fun i => V.ref (b + i)) (l.map fun i => Value.ref (b + i))
  | [] => .nil
  | _ :: l => .cons rfl (vals_range b l)
theorem vals_of {W b : Nat} : Vals ((List.range W).map fun i => V.ref (b + i)) ((List.range W).map fun i => Value.ref (b + i)) := vals_range b _
theorem vals_of_refs : ∀ {rows : List Addr}, Vals (rows.map V.ref) (rows.map Value.ref)
  | [] => .nil
  | _ :: _ => .cons rfl vals_of_refs
variable {e : Expr} {te : TE} {p1 p2 p3 pos1 pos2 : Pos}
theorem pe_listzip (hl : Gl X "list") (hz : Gl X "zip") (ml : X.mg "list" = none) (mz : X.mg "zip" = none) (hc : X.calm = true) (he : PE X e te)
    (hst : starEach [.Starred e p3] X.env = [(true, eval e X.env)] := by rfl)
    (hs2 : starEach [.Call (.Name "zip" p2) [.Starred e p3] [] pos2] X.env = [(false, eval (.Call (.Name "zip" p2) [.Starred e p3] [] pos2) X.env)] := by rfl) :
    PE X (.Call (.Name "list" p1) [.Call (.Name "zip" p2) [.Starred e p3] [] pos2] [] pos1) (tZipS X.K te) := by
  refine ⟨fun pins s σ H Q I h => ?_⟩
  refine wpAny_Call_Name_kw (ld_blt (u := .type "list") I hl ml (by decide +kernel) ?_ (by decide) (by decide))
  have hh : X.A.handled = none := I.ok.hd hc
  rw [hs2]
  refine PySem.callWith_type1 ?_
  refine wpAny_Call_Name_kw (ld_blt (u := .type "zip") I hz mz (by decide +kernel) ?_ (by decide) (by decide))
  rw [hst]
  refine PySem.W.ks_call (P := fun _ => True) rfl (fun _ _ => ⟨.machine, .inr (.inl rfl), PySem.W.Looks.of_pure rfl⟩) (PySem.W.ks_lone (thn (he.run pins s σ H _ I h) fun v s1 hv => ?_))
  obtain ⟨x, H1, I1, rx, p, rows, cells, W, rfl, hp, hne, hlen, hW, hcell, q⟩ := hv
  obtain rfl : v = Value.ref p := rx
  refine star_tup I1 hp fun us s2 I2 rv => ⟨trivial, ?_⟩
  have eus := vals_refs rv
  subst eus
  obtain ⟨L0, eL0, P, ht⟩ := rows_at I2 hcell
  have e2 : rows.map Value.ref = L0.map fun q => Value.ref q.1 := by rw [← eL0, List.map_map]; rfl
  have lenL : L0.length = rows.length := by rw [← eL0, List.length_map]
  have hneL : L0 ≠ [] := fun z => hne (by rw [← eL0, z]; rfl)
  show wpAny _ X.A (call (.type "zip") ([] ++ rows.map Value.ref) []) _ _ _
  rw [List.nil_append, e2]
  have big : 1000 < sizeLine := by decide
  refine zip_call ht hneL (by omega) fun h3 L Z => ?_
  have hLn : L.length = L0.length := by rw [← Z.pr, List.length_map]
  have PL : Paired (fun c (q : It) => Vals c q.2.2.toList ∧ q.2.2.size = W) cells L := paired_of_map (by rw [Z.pr]; exact P)
  have hsz := paired_size PL
  refine list_zip (s := { s2 with heap := h3 }) (cols := fun j => L.map fun q => q.2.2.toList.getD j .none) (W := W) hh rfl ht Z (by intro z; rw [z] at hLn; exact hneL (List.length_eq_zero_iff.mp hLn.symm)) (by omega) (by omega)
    (fun j hj => ⟨List.length_map .., fun k q hk => ?_⟩) (fun q hq => ?_) fun h4 tk k1 k2 k3 => ?_
  · have hq := hsz q (List.mem_of_getElem? hk)
    rw [List.getElem?_map, hk]
    show q.2.2[j]? = some (q.2.2.toList.getD j .none)
    rw [List.getD_eq_getElem?_getD, Array.getElem?_toList, Array.getElem?_eq_getElem (by omega)]
    rfl
  · exact Array.getElem?_eq_none (by rw [hsz q hq]; exact Nat.le_refl _)
  · obtain ⟨cp, k2⟩ := k2
    generalize hb : s2.heap.objs.size + L.length + 3 = b0 at k2 k3 ⊢
    have hb4 : ∀ i, s2.heap.objs.size + L.length + 4 + i = b0 + 1 + i := fun i => by omega
    let col : Nat → List V := fun j => cells.map fun c => c.getD j .non
    let m : Addr → Option HO := fun a => if a = b0 then some (.lst ((List.range W).map fun i => V.ref (b0 + 1 + i))) else if b0 + 1 ≤ a ∧ a < b0 + 1 + W then some (.tup (col (a - (b0 + 1)))) else none
    have m0 : m b0 = some (.lst ((List.range W).map fun i => V.ref (b0 + 1 + i))) := if_pos rfl
    have m1 : ∀ i, i < W → m (b0 + 1 + i) = some (.tup (col i)) := fun i hi => by
      show (if b0 + 1 + i = b0 then _ else if b0 + 1 ≤ b0 + 1 + i ∧ b0 + 1 + i < b0 + 1 + W then some (HO.tup (col (b0 + 1 + i - (b0 + 1)))) else none) = _
      rw [if_neg (by omega), if_pos (by omega), Nat.add_sub_cancel_left]
    have mm : ∀ (a : Nat) o, m a = some o → (a = b0 ∧ o = .lst ((List.range W).map fun i => V.ref (b0 + 1 + i))) ∨ ∃ i, i < W ∧ a = b0 + 1 + i ∧ o = .tup (col i) := fun a o e => by
      have e : (if a = b0 then some (HO.lst ((List.range W).map fun i => V.ref (b0 + 1 + i))) else if b0 + 1 ≤ a ∧ a < b0 + 1 + W then some (HO.tup (col (a - (b0 + 1)))) else none) = some o := e
      split at e
      · exact .inl ⟨by assumption, (Option.some.inj e).symm⟩
      · split at e
        · exact .inr ⟨a - (b0 + 1), by omega, by omega, (Option.some.inj e).symm⟩
        · cases e
    have J := laid_all (m := m) (t' := tk) I2 k1 (fun a o e => by
      show @LE.le Nat _ _ _
      rcases mm a o e with ⟨r, _⟩ | ⟨i, _, r, _⟩ <;> omega) fun a o e => by
        rcases mm a o e with ⟨r, r2⟩ | ⟨i, hi, r, r2⟩
        · rw [r, r2]
          refine ⟨by rw [List.length_map, List.length_range]; omega, _, cp, vals_of (W := W) (b := b0 + 1), ?_⟩
          rw [k2]
          simp only [hb4]
        · rw [r, r2]
          have kt := k3 i hi
          rw [hb4] at kt
          refine ⟨?_, _, paired_map (fun c q hcq => getD_rel hcq.1 i) PL, ⟨_, kt, rfl, 0, rfl⟩⟩
          show (cells.map _).length ≤ sizeLine
          have := Paired.length P
          rw [List.length_map]
          omega
    have fr : ∀ a o, m a = some o → H1 a = none := fun a o e => I2.hok.fresh (by
      show @LE.le Nat _ _ _
      rcases mm a o e with ⟨r, _⟩ | ⟨i, _, r, _⟩ <;> omega)
    refine ⟨.ref b0, over H1 m, J, rfl, q b0 ((List.range W).map fun i => b0 + 1 + i) (over H1 m) (fun a o e => ?_) (fr _ _ m0) (by rw [List.length_map, List.length_range]) ?_ fun j t ht => ?_⟩
    · cases z : m a with
      | none => rw [over_none z]; exact e
      | some o' => rw [fr _ _ z] at e; cases e
    · rw [over_some m0, List.map_map]
      rfl
    · have hj : j < W := by
        have := (List.getElem?_eq_some_iff.mp ht).1
        rw [List.length_map, List.length_range] at this
        exact this
      rw [List.getElem?_map, List.getElem?_range hj] at ht
      have ht : b0 + 1 + j = t := Option.some.inj ht
      subst ht
      exact ⟨fr _ _ (m1 j hj), over_some (m1 j hj)⟩
end
end ZS

set_option Elab.async false
set_option maxRecDepth 100000
namespace RX
open PySem L2
/-! ### what comprehensions build -/
theorem refs_ext (S : Nat → Addr) (i : Nat) (x : Addr) : refs (i + 1) (ext S i x) = refs i S ++ [.ref x] := by
  unfold refs
  rw [List.range_succ, List.map_append]
  rw [map_range_ext (f := fun j => V.ref (ext S i x j)) (g := fun j => V.ref (S j)) fun j h => by rw [ext_lt S x h]]
  show _ ++ [V.ref (ext S i x i)] = _
  rw [ext_same]
/-- a property of an address that stays -/
structure Stays (Pr : Hp → Nat → Addr → Prop) : Prop where
  s : ∀ {H H' : Hp} {j : Nat} {x : Addr}, Same H H' → Pr H j x → Pr H' j x
  u : ∀ {H : Hp} {j : Nat} {x D : Addr} {xs ys : List V}, H D = some (.lst xs) → Pr H j x → Pr (upd H D (.lst ys)) j x
structure Built (Pr : Hp → Nat → Addr → Prop) (H : Hp) (D : Addr) (i : Nat) (S : Nat → Addr) (H2 : Hp) : Prop where
  hD : H2 D = some (.lst (refs i S))
  pr : ∀ j, j < i → Pr H2 j (S j)
  s : Same H H2
theorem built0 {Pr : Hp → Nat → Addr → Prop} {H : Hp} {D : Addr} (nD : H D = none) : Built Pr H D 0 (fun _ => D) (upd H D (.lst [])) :=
  ⟨upd_same, fun _ h => absurd h (by omega), Same.upd nD⟩
theorem Built.step {Pr : Hp → Nat → Addr → Prop} {H H2 H3 : Hp} {D x : Addr} {i : Nat} {S : Nat → Addr} (B : Built Pr H D i S H2) (st : Stays Pr) (nD : H D = none) (s : Same H2 H3) (p : Pr H3 i x) :
    Built Pr H D (i + 1) (ext S i x) (upd H3 D (.lst (refs i S ++ [.ref x]))) := by
  have h3 := s _ _ B.hD
  refine ⟨by rw [upd_same, refs_ext], fun j hj => ?_, fun b o e => by rw [upd_ne (ne_of_none e nD)]; exact s _ _ (B.s _ _ e)⟩
  refine st.u h3 ?_
  by_cases e : j = i
  · subst e; rw [ext_same]; exact p
  · rw [ext_lt S x (by omega)]
    exact st.s s (B.pr j (by omega))
theorem RatAt.ne {C : Addr} {H : Hp} {p D : Addr} {n d : Int} {xs : List V} (h : RatAt C H p n d) (h2 : H D = some (.lst xs)) : p ≠ D := by
  obtain ⟨dx, h⟩ := h
  exact ne_of h h2 (by intro z; cases z)
theorem RowAt.updL {C : Addr} {H : Hp} {p D : Addr} {k : Nat} {a : Nat → Addr} {n d : Nat → Int} {xs ys : List V} (h : RowAt C H p k a n d) (h2 : H D = some (.lst xs)) : RowAt C (upd H D (.lst ys)) p k a n d :=
  ⟨by rw [upd_ne (ne_of h.hp h2 (by intro z; cases z))]; exact h.hp, fun i hi => (h.r i hi).other ((h.r i hi).ne h2)⟩
theorem stays_rat {C : Addr} {n d : Nat → Int} : Stays (fun H j x => RatAt C H x (n j) (d j)) := ⟨fun s h => h.same s, fun h2 h => h.other (h.ne h2)⟩
theorem stays_row {C : Addr} {k : Nat} {n d : Nat → Nat → Int} : Stays (fun H i x => ∃ a, RowAt C H x k a (n i) (d i)) := ⟨fun s ⟨a, h⟩ => ⟨a, h.same s⟩, fun h2 ⟨a, h⟩ => ⟨a, h.updL h2⟩⟩
/-! ### a row along columns, products -/
abbrev sTimes : Stmt := topS 8
abbrev sRowT : Stmt := topS 9
abbrev sUnit : Stmt := topS 10
structure ColsAt (C : Addr) (H : Hp) (l : Addr) (k w : Nat) (T : Nat → Addr) (b : Nat → Nat → Addr) (m e : Nat → Nat → Int) : Prop where
  hl : H l = some (.lst (refs w T))
  c : ∀ j, j < w → RowAt C H (T j) k (fun i => b i j) (fun i => m i j) (fun i => e i j)
theorem ColsAt.same {C : Addr} {H H' : Hp} {l : Addr} {k w : Nat} {T : Nat → Addr} {b : Nat → Nat → Addr} {m e : Nat → Nat → Int} (h : ColsAt C H l k w T b m e) (s : Same H H') : ColsAt C H' l k w T b m e := ⟨s _ _ h.hl, fun j hj => (h.c j hj).same s⟩
/-- the number in a place of a row times a table -/
def cell (n d : Nat → Int) (m e : Nat → Nat → Int) (k j : Nat) : Int × Int := RT.due n d (fun i => m i j) (fun i => e i j) k
def spAlong (C : Addr) : Sp := fun vs H Q _ => ∃ (p l : Addr) (k w : Nat) (a T : Nat → Addr) (b : Nat → Nat → Addr) (n d : Nat → Int) (m e : Nat → Nat → Int), vs = [.ref p, .ref l] ∧ RowAt C H p k a n d ∧ ColsAt C H l k w T b m e ∧ Frs k n d ∧
  (∀ j, j < w → Frs k (fun i => m i j) (fun i => e i j)) ∧ k ≤ 60 ∧ w ≤ 1000 ∧
  ∀ (r : Addr) (S : Nat → Addr) (H' : Hp), Same H H' → H r = none → RowAt C H' r w S (fun j => (cell n d m e k j).1) (fun j => (cell n d m e k j).2) → Q (.ref r) H'
/-- a table of Ratios -/
structure TabAt (C : Addr) (H : Hp) (p : Addr) (h w : Nat) (R : Nat → Addr) (A : Nat → Nat → Addr) (N D : Nat → Nat → Int) : Prop where
  hp : H p = some (.tup (refs h R))
  r : ∀ i, i < h → RowAt C H (R i) w (A i) (N i) (D i)
theorem TabAt.same {C : Addr} {H H' : Hp} {p : Addr} {h w : Nat} {R : Nat → Addr} {A : Nat → Nat → Addr} {N D : Nat → Nat → Int} (x : TabAt C H p h w R A N D) (s : Same H H') : TabAt C H' p h w R A N D := ⟨s _ _ x.hp, fun i hi => (x.r i hi).same s⟩
def spRowT (C : Addr) : Sp := fun vs H Q _ => ∃ (p q : Addr) (k w : Nat) (a R : Nat → Addr) (A : Nat → Nat → Addr) (n d : Nat → Int) (m e : Nat → Nat → Int), vs = [.ref p, .ref q] ∧ RowAt C H p k a n d ∧ TabAt C H q k w R A m e ∧ Frs k n d ∧
  (∀ i, i < k → Frs w (m i) (e i)) ∧ 0 < k ∧ k ≤ 60 ∧ w ≤ 1000 ∧
  ∀ (r : Addr) (S : Nat → Addr) (H' : Hp), Same H H' → H r = none → RowAt C H' r w S (fun j => (cell n d m e k j).1) (fun j => (cell n d m e k j).2) → Q (.ref r) H'
def spTimes (C : Addr) : Sp := fun vs H Q _ => ∃ (p q : Addr) (h k w : Nat) (U R : Nat → Addr) (a A : Nat → Nat → Addr) (n d : Nat → Nat → Int) (m e : Nat → Nat → Int), vs = [.ref p, .ref q] ∧ TabAt C H p h k U a n d ∧ TabAt C H q k w R A m e ∧ (∀ i, i < h → Frs k (n i) (d i)) ∧
  (∀ i, i < k → Frs w (m i) (e i)) ∧ 0 < k ∧ k ≤ 60 ∧ w ≤ 1000 ∧ h ≤ 1000 ∧
  ∀ (r : Addr) (S : Nat → Addr) (B : Nat → Nat → Addr) (H' : Hp), Same H H' → H r = none → TabAt C H' r h w S B (fun i j => (cell (n i) (d i) m e k j).1) (fun i j => (cell (n i) (d i) m e k j).2) → Q (.ref r) H'
section
variable {P : Program} {w : World} {K : PySem.W.Frag} {mg : Str → Option Value} {base : Heap}
theorem scAl : FnScope ["row", "columns", "column"] ["row", "columns"] (defScope sAlong) := ⟨rfl, rfl, rfl, by decide +kernel, rfl, by decide +kernel, by decide +kernel⟩
theorem scTi : FnScope ["one", "other", "columns", "row"] ["one", "other"] (defScope sTimes) := ⟨rfl, rfl, rfl, by decide +kernel, rfl, by decide +kernel, by decide +kernel⟩
theorem scRt : FnScope ["row", "table"] ["row", "table"] (defScope sRowT) := ⟨rfl, rfl, rfl, by decide +kernel, rfl, by decide +kernel, by decide +kernel⟩
theorem ok_along {f fS C : Addr} {fd dS : FuncData} (F : Fun K "_along" "_along" sAlong f fd) (T : TxtP mg) (cS : CalN P w K mg base "sum_of_products" 3 ["row", "column"] (spSop C) fS dS) :
    FnOk P w K mg base CX0 4 f fd ["row", "columns"] (spAlong C) := by
  refine F.ok scAl (fun vs H Q E h => ?_) (fun cdv A outer s H vs Q E hr h => ?_)
  · obtain ⟨p, l, k, w, a, T, b, n, d, m, e, rfl, _⟩ := h
    rfl
  · obtain ⟨p, l, k, ww, a, T', b, n, d, m, e, rfl, hp, hl, fn, fm, hk, hw, kk⟩ := h
    refine ⟨_, pss_one (ps_ret (pe_callTy call_tuple_of (by rfl) T.tup (by decide +kernel) (pa_cons (pe_lc (own := [("column", 2)]) (g := gName 2) (tt := tYes) rfl scAl.nd (pi_list (pv 1)) (blkOk_by (N := ["row", "columns", "column"]) (sc := defScope sAlong) (by decide +kernel))
        (fun _ _ _ _ _ => pg_name (i := 2) scAl.nd rfl (Or.inl rfl)) (fun _ _ _ _ _ => pts_nil) (fun _ _ _ _ _ => pe_call cS.G hr rfl cS.m cS.kp cS.b .nil pass0 (pa_cons (pv 0) (pa_cons (pv 2) pa_nil)))) pa_nil))), ?_⟩
    refine ⟨_, rfl, l, rfl, ⟨_, SqL.of hl.hl⟩, fun D nD => ?_⟩
    refine lc_list (K := K) (a := l) (xs := refs ww T') (fun i H2 => ∃ S, Built (fun H j x => RatAt C H x (cell n d m e k j).1 (cell n d m e k j).2) H D i S H2) ⟨_, built0 nD⟩ (fun i H2 _ ⟨S, B⟩ => SqL.of (B.s _ _ hl.hl)) ?_ ?_
    · rintro i x H2 hi ⟨S, B⟩
      obtain ⟨hi', rfl⟩ := refs_lt hi
      clear hi
      have hi := hi'
      refine ⟨rfl, ?_⟩
      refine ⟨_, rfl, _, rfl, p, T' i, k, a, _, n, d, _, _, rfl, hp.same B.s, (hl.c i hi).same B.s, fn, fm i hi, hk, fun r H3 s3 n3 hR => ?_⟩
      refine ⟨_, s3 _ _ B.hD, ?_, _, B.step stays_rat nD s3 hR⟩
      rw [refs_len]
      exact small1000 (by omega)
    · rintro H2 ⟨S, B⟩
      have B : Built _ H D (refs ww T').length S H2 := B
      rw [refs_len] at B
      refine ⟨D, _, rfl, .inl ⟨SqL.of B.hD, fun r nr => ?_⟩⟩
      refine kk r S _ (B.s.trans (Same.upd nr)) (B.s.free nr) ⟨upd_same, fun j hj => (B.pr j hj).same (Same.upd nr)⟩
/-- the columns of a table -/
theorem cols_of {C : Addr} {H H2 : Hp} {q l : Addr} {k ww : Nat} {R : Nat → Addr} {A : Nat → Nat → Addr} {m e : Nat → Nat → Int} (t : TabAt C H q k ww R A m e) (s : Same H H2) {ts : List Addr} (hts : ts.length = ww) (hl : H2 l = some (.lst (ts.map V.ref)))
    (h : ∀ (j : Nat) t, ts[j]? = some t → H t = none ∧ H2 t = some (.tup (((List.range k).map fun i => refs ww (A i)).map fun c => c.getD j .non))) : ColsAt C H2 l k ww (fun j => ts.getD j 0) A m e := by
  refine ⟨?_, fun j hj => ⟨?_, fun i hi => ((t.r i hi).r j hj).same s⟩⟩
  · rw [hl]
    congr 2
    refine List.ext_getElem? fun j => ?_
    by_cases hj : j < ww
    · rw [refs_get hj, List.getElem?_map, List.getD_eq_getElem?_getD, List.getElem?_eq_getElem (by omega)]
      rfl
    · rw [List.getElem?_eq_none (by rw [List.length_map]; omega), List.getElem?_eq_none (by rw [refs_len]; omega)]
  · obtain ⟨_, e⟩ := h j (ts.getD j 0) (by rw [List.getD_eq_getElem?_getD, List.getElem?_eq_getElem (by omega)]; rfl)
    rw [e, List.map_map]
    congr 2
    unfold refs
    refine List.map_congr_left fun i hi => ?_
    show (refs ww (A i)).getD j .non = _
    rw [List.getD_eq_getElem?_getD, refs_get hj]
    rfl
theorem zip_in {C : Addr} {H : Hp} {q : Addr} {k ww : Nat} {R : Nat → Addr} {A : Nat → Nat → Addr} {m e : Nat → Nat → Int} (t : TabAt C H q k ww R A m e) :
    Paired (fun r c => H r = some (.tup c) ∧ c.length = ww) ((List.range k).map R) ((List.range k).map fun i => refs ww (A i)) := by
  have key : ∀ l : List Nat, (∀ i ∈ l, i < k) → Paired (fun r c => H r = some (.tup c) ∧ c.length = ww) (l.map R) (l.map fun i => refs ww (A i)) := fun l => by
    induction l with
    | nil => intro _; exact .nil
    | cons i l ih => intro h; exact .cons ⟨(t.r i (h i List.mem_cons_self)).hp, refs_len _ _⟩ (ih fun j hj => h j (List.mem_cons_of_mem _ hj))
  exact key _ fun i hi => List.mem_range.mp hi
theorem ok_rowT {f fA C : Addr} {fd dA : FuncData} (F : Fun K "row_times" "row_times" sRowT f fd) (T : TxtP mg) (cA : CalN P w K mg base "_along" 4 ["row", "columns"] (spAlong C) fA dA) :
    FnOk P w K mg base CX0 5 f fd ["row", "table"] (spRowT C) := by
  refine F.ok scRt (fun vs H Q E h => ?_) (fun cdv A outer s H vs Q E hr h => ?_)
  · obtain ⟨p, q, k, w, a, R, A, n, d, m, e, rfl, _⟩ := h
    rfl
  · obtain ⟨p, q, k, ww, a, R, A', n, d, m, e, rfl, hp, hq, fn, fm, h0, hk, hw, kk⟩ := h
    refine ⟨_, pss_one (ps_ret (pe_call cA.G hr rfl cA.m cA.kp cA.b .nil pass0 (pa_cons (pv 0) (pa_cons (ZS.pe_listzip (by rfl) (by rfl) T.list T.zip rfl (pv 1)) pa_nil)))), ?_⟩
    refine ⟨_, rfl, _, rfl, q, (List.range k).map R, _, ww, rfl, SqT.of (by rw [hq.hp]; unfold refs; rw [List.map_map]; rfl), ?_, ?_, hw, zip_in hq, fun l ts H2 s2 nl hts hl ht => ?_⟩
    · intro z
      have := congrArg List.length z
      rw [List.length_map, List.length_range] at this
      exact absurd this (by show k ≠ 0; omega)
    · rw [List.length_map, List.length_range]; omega
    have cols := cols_of hq s2 hts hl ht
    exact ⟨p, l, k, ww, a, _, A', n, d, m, e, rfl, hp.same s2, cols, fn, fun j hj i hi => fm i hi j hj, hk, hw, fun r S H3 s3 n3 hR => kk r S H3 (s2.trans s3) (s2.free n3) hR⟩
theorem ok_times {f fA C : Addr} {fd dA : FuncData} (F : Fun K "times" "times" sTimes f fd) (T : TxtP mg) (cA : CalN P w K mg base "_along" 4 ["row", "columns"] (spAlong C) fA dA) :
    FnOk P w K mg base CX0 5 f fd ["one", "other"] (spTimes C) := by
  refine F.ok scTi (fun vs H Q E h => ?_) (fun cdv A outer s H vs Q E hr h => ?_)
  · obtain ⟨p, q, h, k, w, U, R, a, A, n, d, m, e, rfl, _⟩ := h
    rfl
  · obtain ⟨p, q, hh, k, ww, U, R, a, A', n, d, m, e, rfl, hp, hq, fn, fm, h0, hk, hw, hhb, kk⟩ := h
    refine ⟨_, pss_cons (ps_set (i := 2) scTi.nd rfl (.inr rfl) (ZS.pe_listzip (by rfl) (by rfl) T.list T.zip rfl (pv 1)))
      (pss_one (ps_ret (pe_callTy call_tuple_of (by rfl) T.tup (by decide +kernel) (pa_cons (pe_lc (own := [("row", 3)]) (g := gName 3) (tt := tYes) rfl scTi.nd (pi_tup (pv 0)) (blkOk_by (N := ["one", "other", "columns", "row"]) (sc := defScope sTimes) (by decide +kernel))
        (fun _ _ _ _ _ => pg_name (i := 3) scTi.nd rfl (Or.inl rfl)) (fun _ _ _ _ _ => pts_nil) (fun _ _ _ _ _ => pe_call cA.G hr rfl cA.m cA.kp cA.b .nil pass0 (pa_cons (pv 3) (pa_cons (pv 2) pa_nil)))) pa_nil)))), ?_⟩
    refine ⟨_, rfl, q, (List.range k).map R, _, ww, rfl, SqT.of (by rw [hq.hp]; unfold refs; rw [List.map_map]; rfl), ?_, ?_, hw, zip_in hq, fun l ts H2 s2 nl hts hl ht => ?_⟩
    · intro z
      have := congrArg List.length z
      rw [List.length_map, List.length_range] at this
      exact absurd this (by show k ≠ 0; omega)
    · rw [List.length_map, List.length_range]; omega
    have cols := cols_of hq s2 hts hl ht
    have hp2 := hp.same s2
    refine ⟨_, rfl, p, rfl, ⟨_, SqT.of hp2.hp⟩, fun D nD => ?_⟩
    refine lc_tup (K := K) (a := p) (xs := refs hh U) (fun i H3 => ∃ S, Built (fun H i x => ∃ a, RowAt C H x ww a (fun j => (cell (n i) (d i) m e k j).1) (fun j => (cell (n i) (d i) m e k j).2)) H2 D i S H3) ⟨_, built0 nD⟩ (fun i H3 _ ⟨S, B⟩ => SqT.of (B.s _ _ hp2.hp)) ?_ ?_
    · rintro i x H3 hi ⟨S, B⟩
      obtain ⟨hi', rfl⟩ := refs_lt hi
      clear hi
      have hi := hi'
      refine ⟨rfl, ?_⟩
      refine ⟨_, rfl, _, rfl, U i, l, k, ww, _, _, A', _, _, m, e, rfl, (hp2.r i hi).same B.s, cols.same B.s, fn i hi, fun j hj i hi => fm i hi j hj, hk, hw, fun r S' H4 s4 n4 hR => ?_⟩
      refine ⟨_, s4 _ _ B.hD, ?_, _, B.step (stays_row (C := C) (k := ww) (n := fun i j => (cell (n i) (d i) m e k j).1) (d := fun i j => (cell (n i) (d i) m e k j).2)) nD s4 ⟨_, hR⟩⟩
      rw [refs_len]
      exact small1000 (by omega)
    · rintro H3 ⟨S, B⟩
      have B : Built _ H2 D (refs hh U).length S H3 := B
      rw [refs_len] at B
      refine ⟨D, _, rfl, .inl ⟨SqL.of B.hD, fun r nr => ?_⟩⟩
      have s5 := Same.upd (o := .tup (refs hh S)) nr
      have ch : ∀ i, ∃ a, i < hh → RowAt C H3 (S i) ww a (fun j => (cell (n i) (d i) m e k j).1) (fun j => (cell (n i) (d i) m e k j).2) := fun i => by
        by_cases hi : i < hh
        · obtain ⟨a, ha⟩ := B.pr i hi
          exact ⟨a, fun _ => ha⟩
        · exact ⟨fun _ => 0, fun h => absurd h hi⟩
      obtain ⟨B2, hB2⟩ := Classical.axiomOfChoice ch
      exact kk r S B2 _ ((s2.trans B.s).trans s5) (s2.free (B.s.free nr)) ⟨upd_same, fun i hi => (hB2 i hi).same s5⟩
end
end RX

set_option Elab.async false
set_option maxRecDepth 100000
namespace RX
open PySem L2
/-! ### the unit table -/
abbrev outUnit : Scope := { kind := .function, names := [(".0", .local), ("at", .cell), ("tuple", .globalImplicit), ("range", .globalImplicit), ("nothing", .cell), ("one", .cell), ("size", .cell)], isGenerator := false, isCoroutine := false }
def one01 (i j : Nat) : Int := if i = j then 1 else 0
def spUnit (C : Addr) : Sp := fun vs H Q _ => ∃ n : Int, vs = [.int n] ∧ 0 ≤ n ∧ n ≤ 1000 ∧
  ∀ (r : Addr) (S : Nat → Addr) (B : Nat → Nat → Addr) (H' : Hp), Same H H' → H r = none → TabAt C H' r n.toNat n.toNat S B one01 (fun _ _ => 1) → Q (.ref r) H'
def rTupO (K : PySem.W.Frag) : List V → Hp → VK → Prop := fun xs H Q => ∃ p ys, xs = [.ref p] ∧ ((SqL K H p ys ∧ ∀ l : Addr, H l = none → Q (.ref l) (upd H l (.tup ys))) ∨ SqT K H p ys ∧ Q (.ref p) H)
theorem call_tupK {X : Cx} : CallR X (.type "tuple") (rTupO X.K) := call_tuple_of
section
variable {P : Program} {w : World} {K : PySem.W.Frag} {mg : Str → Option Value} {base : Heap}
theorem scUn : FnScope ["size", "one", "nothing", "at", "place"] ["size"] (defScope sUnit) := ⟨rfl, rfl, rfl, by decide +kernel, rfl, by decide +kernel, by decide +kernel⟩
theorem make1 {C : Addr} {H : Hp} {t : Int} {R : VK} {E : XK} {x dx : Addr} (nx : H x = none) (nd : H dx = none) (k : ∀ H' : Hp, Same H H' → RatAt C H' x t 1 → R .non H') :
    spInit C (.ref x :: ([.int t] ++ [.int 1])) (upd (upd H dx (.own x)) x (.ins C dx [])) R E := by
  refine ⟨x, dx, t, 1, rfl, upd_same, by decide, Nat.one_lt_two_pow (by decide), fun H' hR kp => k H' (Same.made nx nd kp) ?_⟩
  rw [(RT.one t).1, (RT.one t).2] at hR
  exact hR
theorem ok_unit {f fI C : Addr} {fd fdI : FuncData} (F : Fun K "unit" "unit" sUnit f fd) (T : TxtP mg) (R : TxtR K mg C) (M : Mk K C fI) (GI : FnOk P w K mg base CX0 1 fI fdI ["self", "top", "bottom"] (spInit C))
    (bI1 : ∃ ds, Vals [V.int 1] ds ∧ Binds K fdI ["self", "top", "bottom"] ds) : FnOk P w K mg base CX0 3 f fd ["size"] (spUnit C) := by
  refine F.ok scUn (fun vs H Q E h => ?_) (fun cdv A outer s H vs Q E hr h => ?_)
  · obtain ⟨n, rfl, _⟩ := h
    rfl
  · obtain ⟨n, rfl, h0, h1, kk⟩ := h
    obtain ⟨ds, vds, b1⟩ := bI1
    refine ⟨_, pss_cons (ps_asg (pe_tup (pa_cons (pe_make M GI hr rfl R.mgC b1 vds pass0 (pa_cons pe_int pa_nil)) (pa_cons (pe_make M GI hr rfl R.mgC b1 vds pass0 (pa_cons pe_int pa_nil)) pa_nil)))
        (pg_tup rfl (pgs_cons (pg_name (i := 1) scUn.nd rfl (.inr rfl)) (pgs_cons (pg_name (i := 2) scUn.nd rfl (.inr rfl)) pgs_nil))))
      (pss_one (ps_ret (pe_callTy call_tuple_of (by rfl) T.tup (by decide +kernel) (pa_cons (pe_lc (own := [("at", 3)]) (g := gName 3) (tt := tYes) rfl scUn.nd (pi_range1 rfl T.range (pa_cons (pv 0) pa_nil)) (blkOk_by (N := ["size", "one", "nothing", "at", "place"]) (sc := defScope sUnit) (by decide +kernel))
        (fun _ _ _ _ _ => pg_name (i := 3) scUn.nd rfl (Or.inr rfl)) (fun _ _ _ _ _ => pts_nil)
        (fun _ _ _ _ _ => pe_callTy (T := "tuple") (show CallR _ (.type "tuple") (rTupO K) from call_tupK) (by rfl) T.tup (by decide +kernel) (pa_cons (pe_lc (own := [("place", 4)]) (g := gName 4) (tt := tYes) rfl scUn.nd (pi_range1 rfl T.range (pa_cons (pv 0) pa_nil)) (blkOk_by (N := ["size", "one", "nothing", "at", "place"]) (sc := outUnit) (by decide +kernel))
          (fun _ _ _ _ _ => pg_name (i := 4) scUn.nd rfl (Or.inl rfl)) (fun _ _ _ _ _ => pts_nil)
          (fun _ _ _ _ _ => pe_ifExp (pt_cmpR op_eq (pv 3) (pv 4) (nomark _)) (pv 1) (pv 2))) pa_nil))) pa_nil)))), ?_⟩
    intro r1 dx1 n1 nd1 ne1
    refine make1 n1 nd1 fun H1 s1 e1 => ⟨rfl, ?_⟩
    intro r2 dx2 n2 nd2 ne2
    refine make1 n2 nd2 fun H2 s2 e2 => ⟨rfl, ?_⟩
    clear ne2 nd2 dx2 ne1 nd1 dx1
    refine ⟨(by show 2 ≤ sizeLine; decide), fun t0 n0 => ⟨t0, _, rfl, SqT.of upd_same, rfl, _, _, rfl, _, _, rfl, rfl, ?_⟩⟩
    have s3 : Same H2 (upd H2 t0 (.tup [.ref r1, .ref r2])) := Same.upd n0
    have e1 := (e1.same s2).same s3
    have e2 := e2.same s3
    have sA : Same H (upd H2 t0 (.tup [.ref r1, .ref r2])) := (s1.trans s2).trans s3
    generalize upd H2 t0 (.tup [.ref r1, .ref r2]) = H3 at *
    clear s3 s2 n0
    refine ⟨_, rfl, n, rfl, by omega, by omega, fun D nD => ?_⟩
    have sml : ∀ i, i < n.toNat → i < sizeLine := fun i hi => small1000 (by omega)
    refine lc_range (lo := 0) (n := n.toNat) (fun i H4 => ∃ S, Built (fun H i x => ∃ a, RowAt C H x n.toNat a (one01 i) (fun _ => 1)) H3 D i S H4) ⟨_, built0 nD⟩ ?_ ?_
    · rintro i H4 hi ⟨S, B⟩
      refine ⟨rfl, ?_⟩
      refine ⟨_, rfl, n, rfl, by omega, by omega, fun D2 nD2 => ?_⟩
      refine lc_range (lo := 0) (n := n.toNat) (fun j H5 => ∃ S2, Built (fun H j x => RatAt C H x (one01 i j) 1) H4 D2 j S2 H5) ⟨_, built0 nD2⟩ ?_ ?_
      · rintro j H5 hj ⟨S2, B2⟩
        have g1 := (e1.same B.s).same B2.s
        have g2 := (e2.same B.s).same B2.s
        refine ⟨rfl, ?_⟩
        refine ⟨_, rfl, _, rfl, rfl, _, rfl, ?_⟩
        refine ite2 (fun z => ?_) (fun z => ?_)
        · have z := of_decide_eq_true z
          injection z with z
          have e : i = j := by omega
          refine ⟨_, rfl, _, B2.hD, by rw [refs_len]; exact sml j hj, _, B2.step (x := r1) (stays_rat (n := one01 i) (d := fun _ => 1)) nD2 (Same.refl _) ?_⟩
          show RatAt C H5 r1 (one01 i j) 1
          unfold one01
          rw [if_pos e]
          exact g1
        · have z : ¬ i = j := fun e => z (decide_eq_true (by rw [e]))
          refine ⟨_, rfl, _, B2.hD, by rw [refs_len]; exact sml j hj, _, B2.step (x := r2) (stays_rat (n := one01 i) (d := fun _ => 1)) nD2 (Same.refl _) ?_⟩
          show RatAt C H5 r2 (one01 i j) 1
          unfold one01
          rw [if_neg z]
          exact g2
      · rintro H5 ⟨S2, B2⟩
        refine ⟨D2, _, rfl, .inl ⟨SqL.of B2.hD, fun r nr => ?_⟩⟩
        have s6 : Same H5 (upd H5 r (.tup (refs n.toNat S2))) := Same.upd nr
        refine ⟨_, (B2.s.trans s6) _ _ B.hD, by rw [refs_len]; exact sml i hi, _, B.step (stays_row (n := one01) (d := fun _ _ => 1)) nD (B2.s.trans s6) ⟨S2, upd_same, fun j hj => (B2.pr j hj).same s6⟩⟩
    · rintro H4 ⟨S, B⟩
      refine ⟨D, _, rfl, .inl ⟨SqL.of B.hD, fun r nr => ?_⟩⟩
      have s5 : Same H4 (upd H4 r (.tup (refs n.toNat S))) := Same.upd nr
      have ch : ∀ i, ∃ a, i < n.toNat → RowAt C H4 (S i) n.toNat a (one01 i) (fun _ => 1) := fun i => by
        by_cases hi : i < n.toNat
        · obtain ⟨a, ha⟩ := B.pr i hi
          exact ⟨a, fun _ => ha⟩
        · exact ⟨fun _ => 0, fun h => absurd h hi⟩
      obtain ⟨B2, hB2⟩ := Classical.axiomOfChoice ch
      exact kk r S B2 _ ((sA.trans B.s).trans s5) (sA.free (B.s.free nr)) ⟨upd_same, fun i hi => (hB2 i hi).same s5⟩
end
end RX

set_option Elab.async false
set_option maxRecDepth 100000
namespace RX
open PySem L2
/-! ### rows and tables of pairs, and of Ratios -/
abbrev sSameRow : Stmt := topS 22
abbrev sSameTab : Stmt := topS 23
abbrev sRats : Stmt := topS 24
abbrev sRatT : Stmt := topS 25
/-- a list of pairs -/
structure LineAt (H : Hp) (q : Addr) (k : Nat) (a : Nat → Addr) (n d : Nat → Int) : Prop where
  hq : H q = some (.lst (refs k a))
  p : ∀ i, i < k → PairAt H (a i) (n i) (d i)
theorem LineAt.same {H H' : Hp} {q : Addr} {k : Nat} {a : Nat → Addr} {n d : Nat → Int} (h : LineAt H q k a n d) (s : Same H H') : LineAt H' q k a n d := ⟨s _ _ h.hq, fun i hi => (h.p i hi).same s⟩
/-- a list of lists of pairs -/
structure LinesAt (H : Hp) (q : Addr) (h w : Nat) (R : Nat → Addr) (A : Nat → Nat → Addr) (N D : Nat → Nat → Int) : Prop where
  hq : H q = some (.lst (refs h R))
  r : ∀ i, i < h → LineAt H (R i) w (A i) (N i) (D i)
theorem LinesAt.same {H H' : Hp} {q : Addr} {h w : Nat} {R : Nat → Addr} {A : Nat → Nat → Addr} {N D : Nat → Nat → Int} (x : LinesAt H q h w R A N D) (s : Same H H') : LinesAt H' q h w R A N D := ⟨s _ _ x.hq, fun i hi => (x.r i hi).same s⟩
/-- in lowest terms, and not great -/
structure Gd (n d : Int) : Prop where
  f : RT.Fr n d
  c : Nat.Coprime n.natAbs d.natAbs
def Gds (k : Nat) (n d : Nat → Int) : Prop := ∀ i, i < k → Gd (n i) (d i)
def spSameRow (C : Addr) : Sp := fun vs H Q _ => ∃ (p q : Addr) (k : Nat) (S a : Nat → Addr) (n d : Nat → Int), vs = [.ref p, .ref q] ∧ RowAt C H p k S n d ∧ LineAt H q k a n d ∧ k ≤ 1000 ∧ Q (.bl true) H
def spSameTab (C : Addr) : Sp := fun vs H Q _ => ∃ (p q : Addr) (h k : Nat) (S R : Nat → Addr) (B A : Nat → Nat → Addr) (n d : Nat → Nat → Int), vs = [.ref p, .ref q] ∧ TabAt C H p h k S B n d ∧ LinesAt H q h k R A n d ∧ h ≤ 1000 ∧ k ≤ 1000 ∧ Q (.bl true) H
def spRats (C : Addr) : Sp := fun vs H Q _ => ∃ (q : Addr) (k : Nat) (a : Nat → Addr) (n d : Nat → Int), vs = [.ref q] ∧ LineAt H q k a n d ∧ Gds k n d ∧ k ≤ 1000 ∧ ∀ (r : Addr) (S : Nat → Addr) (H' : Hp), Same H H' → H r = none → RowAt C H' r k S n d → Q (.ref r) H'
def spRatT (C : Addr) : Sp := fun vs H Q _ => ∃ (q : Addr) (h k : Nat) (R : Nat → Addr) (A : Nat → Nat → Addr) (n d : Nat → Nat → Int), vs = [.ref q] ∧ LinesAt H q h k R A n d ∧ (∀ i, i < h → Gds k (n i) (d i)) ∧ h ≤ 1000 ∧ k ≤ 1000 ∧
  ∀ (r : Addr) (S : Nat → Addr) (B : Nat → Nat → Addr) (H' : Hp), Same H H' → H r = none → TabAt C H' r h k S B n d → Q (.ref r) H'
theorem Built.tab {C : Addr} {H H4 : Hp} {D : Addr} {h k : Nat} {S : Nat → Addr} {n d : Nat → Nat → Int} (B : Built (fun H i x => ∃ a, RowAt C H x k a (n i) (d i)) H D h S H4) {r : Addr} (nr : H4 r = none) :
    ∃ A, TabAt C (upd H4 r (.tup (refs h S))) r h k S A n d := by
  have s5 : Same H4 (upd H4 r (.tup (refs h S))) := Same.upd nr
  have ch : ∀ i, ∃ a, i < h → RowAt C H4 (S i) k a (n i) (d i) := fun i => by
    by_cases hi : i < h
    · obtain ⟨a, ha⟩ := B.pr i hi
      exact ⟨a, fun _ => ha⟩
    · exact ⟨fun _ => 0, fun h => absurd h hi⟩
  obtain ⟨B2, hB2⟩ := Classical.axiomOfChoice ch
  exact ⟨B2, upd_same, fun i hi => (hB2 i hi).same s5⟩
section
variable {P : Program} {w : World} {K : PySem.W.Frag} {mg : Str → Option Value} {base : Heap}
theorem make2 {C : Addr} {H : Hp} {t b : Int} {R : VK} {E : XK} {x dx : Addr} (hb : b ≠ 0) (hz : Md b) (nx : H x = none) (nd : H dx = none) (k : ∀ H' : Hp, Same H H' → RatAt C H' x (RT.top t b) (RT.bot t b) → R .non H') :
    spInit C (.ref x :: ([.int t, .int b] ++ [])) (upd (upd H dx (.own x)) x (.ins C dx [])) R E :=
  ⟨x, dx, t, b, rfl, upd_same, hb, hz, fun H' hR kp => k H' (Same.made nx nd kp) hR⟩
theorem scSR : FnScope ["actual", "due", "k"] ["actual", "due"] (defScope sSameRow) := ⟨rfl, rfl, rfl, by decide +kernel, rfl, by decide +kernel, by decide +kernel⟩
theorem scST : FnScope ["actual", "due", "k"] ["actual", "due"] (defScope sSameTab) := ⟨rfl, rfl, rfl, by decide +kernel, rfl, by decide +kernel, by decide +kernel⟩
theorem scRs : FnScope ["line", "one"] ["line"] (defScope sRats) := ⟨rfl, rfl, rfl, by decide +kernel, rfl, by decide +kernel, by decide +kernel⟩
theorem scRT : FnScope ["lines", "line"] ["lines"] (defScope sRatT) := ⟨rfl, rfl, rfl, by decide +kernel, rfl, by decide +kernel, by decide +kernel⟩
theorem ok_sameRow {f fE C : Addr} {fd dE : FuncData} (F : Fun K "_law_same_row" "_law_same_row" sSameRow f fd) (T : TxtL mg) (TP : TxtP mg) (cE : CalN P w K mg base "_law_same" 2 ["actual", "due"] (spSame C) fE dE) :
    FnOk P w K mg base CX0 3 f fd ["actual", "due"] (spSameRow C) := by
  refine F.ok scSR (fun vs H Q E h => ?_) (fun cdv A outer s H vs Q E hr h => ?_)
  · obtain ⟨p, q, k, S, a, n, d, rfl, _⟩ := h
    rfl
  · obtain ⟨p, q, k, S, a, n, d, rfl, hp, hq, hk, kk⟩ := h
    refine ⟨_, pss_cons (ps_if (PW.pt (pw_or (pt_not (pt_val (pe_callB RZ.call_isTy (by rfl) T.isi (by decide +kernel) (pa_cons (pv 0) (pa_cons (pe_bltn (v := .ty "tuple") (by rfl) TP.tup (by decide +kernel) rfl) pa_nil)))))
        (pw_or1 (pt_cmpR op_ne (pe_callB call_len_seq (by rfl) T.len PySem.boot_len (pa_cons (pv 0) pa_nil)) (pe_callB call_len_seq (by rfl) T.len PySem.boot_len (pa_cons (pv 1) pa_nil)) (nomark _))))) (pss_one ps_never) pss_nil)
      (pss_cons (ps_for PassesOwn.never rfl (pi_range1 rfl T.range (pa_cons (pe_callB call_len_seq (by rfl) T.len PySem.boot_len (pa_cons (pv 1) pa_nil)) pa_nil)) (pg_name (i := 2) scSR.nd rfl (.inl rfl))
        (pss_one (ps_if (pt_not (pt_val (pe_call cE.G hr rfl cE.m cE.kp cE.b .nil pass0 (pa_cons (pe_ix ix_tup (pv 0) (pv 2) (fun _ _ => rfl)) (pa_cons (pe_ix ix_list (pv 1) (pv 2) (fun _ _ => rfl)) pa_nil))))) (pss_one ps_never) pss_nil)))
      (pss_one (ps_ret pe_bl))), ?_⟩
    refine ⟨_, rfl, .ref p, "tuple", rfl, .tup hp.hp, true, rfl, ?_⟩
    refine iteF ?_
    refine ⟨_, rfl, p, _, rfl, .inr (SqT.of hp.hp), _, rfl, q, _, rfl, .inl (SqL.of hq.hq), rfl, _, rfl, ?_⟩
    refine iteNS (by rw [refs_len, refs_len]) ?_
    refine ⟨_, rfl, q, _, rfl, .inl (SqL.of hq.hq), _, rfl, by rw [refs_len]; omega, by rw [refs_len]; omega, for_range (n := (refs k a).length) (fun i σ H' => ∃ o, σ = [some (.ref p), some (.ref q), o] ∧ H' = H) ⟨_, rfl, rfl⟩ ?_ ?_⟩
    · rintro i σ H' hi ⟨o, rfl, rfl⟩
      rw [refs_len] at hi
      refine ⟨_, rfl, _, rfl, p, _, _, _, rfl, rfl, SqT.of hp.hp, at_of (Int.zero_add _) (refs_get hi), _, rfl, _, rfl, q, _, _, _, rfl, rfl, SqL.of hq.hq, at_of (Int.zero_add _) (refs_get hi), _, _, _, _, rfl, hp.r i hi, hq.p i hi, true, rfl, ?_⟩
      exact iteF ⟨_, rfl, rfl⟩
    · rintro σ H' ⟨o, rfl, rfl⟩
      exact kk
theorem ok_sameTab {f fE C : Addr} {fd dE : FuncData} (F : Fun K "_law_same_table" "_law_same_table" sSameTab f fd) (T : TxtL mg) (TP : TxtP mg) (cE : CalN P w K mg base "_law_same_row" 3 ["actual", "due"] (spSameRow C) fE dE) :
    FnOk P w K mg base CX0 4 f fd ["actual", "due"] (spSameTab C) := by
  refine F.ok scST (fun vs H Q E h => ?_) (fun cdv A outer s H vs Q E hr h => ?_)
  · obtain ⟨p, q, h, k, S, R, B, A, n, d, rfl, _⟩ := h
    rfl
  · obtain ⟨p, q, h, k, S, R, B, A', n, d, rfl, hp, hq, hh, hk, kk⟩ := h
    refine ⟨_, pss_cons (ps_if (PW.pt (pw_or (pt_not (pt_val (pe_callB RZ.call_isTy (by rfl) T.isi (by decide +kernel) (pa_cons (pv 0) (pa_cons (pe_bltn (v := .ty "tuple") (by rfl) TP.tup (by decide +kernel) rfl) pa_nil)))))
        (pw_or1 (pt_cmpR op_ne (pe_callB call_len_seq (by rfl) T.len PySem.boot_len (pa_cons (pv 0) pa_nil)) (pe_callB call_len_seq (by rfl) T.len PySem.boot_len (pa_cons (pv 1) pa_nil)) (nomark _))))) (pss_one ps_never) pss_nil)
      (pss_cons (ps_for PassesOwn.never rfl (pi_range1 rfl T.range (pa_cons (pe_callB call_len_seq (by rfl) T.len PySem.boot_len (pa_cons (pv 1) pa_nil)) pa_nil)) (pg_name (i := 2) scST.nd rfl (.inl rfl))
        (pss_one (ps_if (pt_not (pt_val (pe_call cE.G hr rfl cE.m cE.kp cE.b .nil pass0 (pa_cons (pe_ix ix_tup (pv 0) (pv 2) (fun _ _ => rfl)) (pa_cons (pe_ix ix_list (pv 1) (pv 2) (fun _ _ => rfl)) pa_nil))))) (pss_one ps_never) pss_nil)))
      (pss_one (ps_ret pe_bl))), ?_⟩
    refine ⟨_, rfl, .ref p, "tuple", rfl, .tup hp.hp, true, rfl, ?_⟩
    refine iteF ?_
    refine ⟨_, rfl, p, _, rfl, .inr (SqT.of hp.hp), _, rfl, q, _, rfl, .inl (SqL.of hq.hq), rfl, _, rfl, ?_⟩
    refine iteNS (by rw [refs_len, refs_len]) ?_
    refine ⟨_, rfl, q, _, rfl, .inl (SqL.of hq.hq), _, rfl, by rw [refs_len]; omega, by rw [refs_len]; omega, for_range (n := (refs h R).length) (fun i σ H' => ∃ o, σ = [some (.ref p), some (.ref q), o] ∧ H' = H) ⟨_, rfl, rfl⟩ ?_ ?_⟩
    · rintro i σ H' hi ⟨o, rfl, rfl⟩
      rw [refs_len] at hi
      refine ⟨_, rfl, _, rfl, p, _, _, _, rfl, rfl, SqT.of hp.hp, at_of (Int.zero_add _) (refs_get hi), _, rfl, _, rfl, q, _, _, _, rfl, rfl, SqL.of hq.hq, at_of (Int.zero_add _) (refs_get hi), _, _, _, _, _, _, _, rfl, hp.r i hi, hq.r i hi, hk, true, rfl, ?_⟩
      exact iteF ⟨_, rfl, rfl⟩
    · rintro σ H' ⟨o, rfl, rfl⟩
      exact kk
theorem ok_rats {f fI C : Addr} {fd fdI : FuncData} (F : Fun K "_law_ratios" "_law_ratios" sRats f fd) (T : TxtP mg) (R : TxtR K mg C) (M : Mk K C fI) (GI : FnOk P w K mg base CX0 1 fI fdI ["self", "top", "bottom"] (spInit C)) (bI : Binds K fdI ["self", "top", "bottom"] []) :
    FnOk P w K mg base CX0 3 f fd ["line"] (spRats C) := by
  refine F.ok scRs (fun vs H Q E h => ?_) (fun cdv A outer s H vs Q E hr h => ?_)
  · obtain ⟨q, k, a, n, d, rfl, _⟩ := h
    rfl
  · obtain ⟨q, k, a, n, d, rfl, hq, hg, hk, kk⟩ := h
    refine ⟨_, pss_one (ps_ret (pe_callTy call_tuple_of (by rfl) T.tup (by decide +kernel) (pa_cons (pe_lc (own := [("one", 1)]) (g := gName 1) (tt := tYes) rfl scRs.nd (pi_list (pv 0)) (blkOk_by (N := ["line", "one"]) (sc := defScope sRats) (by decide +kernel))
        (fun _ _ _ _ _ => pg_name (i := 1) scRs.nd rfl (Or.inl rfl)) (fun _ _ _ _ _ => pts_nil) (fun _ _ _ _ _ => pe_make M GI hr rfl R.mgC bI .nil pass0 (pa_cons (pe_ix (show IxR _ (rIxT K) from ix_tup) (pv 1) pe_int (fun _ _ => rfl)) (pa_cons (pe_ix (show IxR _ (rIxT K) from ix_tup) (pv 1) pe_int (fun _ _ => rfl)) pa_nil)))) pa_nil))), ?_⟩
    refine ⟨_, rfl, q, rfl, ⟨_, SqL.of hq.hq⟩, fun D nD => ?_⟩
    refine lc_list (K := K) (a := q) (xs := refs k a) (fun i H2 => ∃ S, Built (fun H j x => RatAt C H x (n j) (d j)) H D i S H2) ⟨_, built0 nD⟩ (fun i H2 _ ⟨S, B⟩ => SqL.of (B.s _ _ hq.hq)) ?_ ?_
    · rintro i x H2 hi ⟨S, B⟩
      obtain ⟨hi', rfl⟩ := refs_lt hi
      clear hi
      have hi := hi'
      have pa := (hq.p i hi).same B.s
      obtain ⟨gf, gc⟩ := hg i hi
      refine ⟨rfl, ?_⟩
      refine ⟨_, rfl, a i, _, 0, _, rfl, rfl, pa.t, rfl, _, rfl, a i, _, 1, _, rfl, rfl, pa.t, rfl, ?_⟩
      have kp := RT.keeps gf.p gc
      intro r dx nr nd ne
      refine make2 (by have := gf.p; omega) (Nat.lt_trans gf.d (Nat.pow_lt_pow_right (by decide) (by decide))) nr nd fun H3 s3 hR => ⟨rfl, ?_⟩
      rw [kp.1, kp.2] at hR
      refine ⟨_, s3 _ _ B.hD, ?_, _, B.step stays_rat nD s3 hR⟩
      rw [refs_len]
      exact small1000 (by omega)
    · rintro H2 ⟨S, B⟩
      have B : Built _ H D (refs k a).length S H2 := B
      rw [refs_len] at B
      refine ⟨D, _, rfl, .inl ⟨SqL.of B.hD, fun r nr => ?_⟩⟩
      refine kk r S _ (B.s.trans (Same.upd nr)) (B.s.free nr) ⟨upd_same, fun j hj => (B.pr j hj).same (Same.upd nr)⟩
theorem ok_ratT {f fS C : Addr} {fd dS : FuncData} (F : Fun K "_law_ratio_table" "_law_ratio_table" sRatT f fd) (T : TxtP mg) (cS : CalN P w K mg base "_law_ratios" 3 ["line"] (spRats C) fS dS) :
    FnOk P w K mg base CX0 4 f fd ["lines"] (spRatT C) := by
  refine F.ok scRT (fun vs H Q E h => ?_) (fun cdv A outer s H vs Q E hr h => ?_)
  · obtain ⟨q, h, k, R, A, n, d, rfl, _⟩ := h
    rfl
  · obtain ⟨q, h, k, R, A', n, d, rfl, hq, hg, hh, hk, kk⟩ := h
    refine ⟨_, pss_one (ps_ret (pe_callTy call_tuple_of (by rfl) T.tup (by decide +kernel) (pa_cons (pe_lc (own := [("line", 1)]) (g := gName 1) (tt := tYes) rfl scRT.nd (pi_list (pv 0)) (blkOk_by (N := ["lines", "line"]) (sc := defScope sRatT) (by decide +kernel))
        (fun _ _ _ _ _ => pg_name (i := 1) scRT.nd rfl (Or.inl rfl)) (fun _ _ _ _ _ => pts_nil) (fun _ _ _ _ _ => pe_call cS.G hr rfl cS.m cS.kp cS.b .nil pass0 (pa_cons (pv 1) pa_nil))) pa_nil))), ?_⟩
    refine ⟨_, rfl, q, rfl, ⟨_, SqL.of hq.hq⟩, fun D nD => ?_⟩
    refine lc_list (K := K) (a := q) (xs := refs h R) (fun i H2 => ∃ S, Built (fun H i x => ∃ a, RowAt C H x k a (n i) (d i)) H D i S H2) ⟨_, built0 nD⟩ (fun i H2 _ ⟨S, B⟩ => SqL.of (B.s _ _ hq.hq)) ?_ ?_
    · rintro i x H2 hi ⟨S, B⟩
      obtain ⟨hi', rfl⟩ := refs_lt hi
      clear hi
      have hi := hi'
      refine ⟨rfl, ?_⟩
      refine ⟨_, rfl, R i, k, A' i, _, _, rfl, (hq.r i hi).same B.s, hg i hi, hk, fun r S' H3 s3 nr hR => ?_⟩
      refine ⟨_, s3 _ _ B.hD, ?_, _, B.step (stays_row (n := n) (d := d)) nD s3 ⟨_, hR⟩⟩
      rw [refs_len]
      exact small1000 (by omega)
    · rintro H2 ⟨S, B⟩
      have B : Built _ H D (refs h R).length S H2 := B
      rw [refs_len] at B
      refine ⟨D, _, rfl, .inl ⟨SqL.of B.hD, fun r nr => ?_⟩⟩
      obtain ⟨A2, t⟩ := B.tab (n := n) (d := d) nr
      exact kk r S A2 _ (B.s.trans (Same.upd nr)) (B.s.free nr) t
end
end RX

set_option Elab.async false
set_option maxRecDepth 100000
namespace RX
open PySem L2
/-! ### the drawn numbers, lines, tables, sizes -/
abbrev sNumber : Stmt := topS 26
abbrev sLine : Stmt := topS 27
abbrev sLines : Stmt := topS 28
abbrev sSizes : Stmt := topS 30
theorem LineAt.ne {H : Hp} {q F : Addr} {k : Nat} {a : Nat → Addr} {n d : Nat → Int} {xs : List V} (h : LineAt H q k a n d) (hF : H F = some (.lst xs)) : ∀ i, i < k → a i ≠ F := fun i hi => (h.p i hi).ne hF
theorem LineAt.other {H : Hp} {q F : Addr} {k : Nat} {a : Nat → Addr} {n d : Nat → Int} {xs : List V} {o : HO} (h : LineAt H q k a n d) (hF : H F = some (.lst xs)) (ne : q ≠ F) : LineAt (upd H F o) q k a n d :=
  ⟨by rw [upd_ne ne]; exact h.hq, fun i hi => (h.p i hi).other (h.ne hF i hi)⟩
theorem LineAt.but {H H' : Hp} {q F : Addr} {k : Nat} {a : Nat → Addr} {n d : Nat → Int} {xs : List V} (h : LineAt H q k a n d) (b : But F H H') (hF : H F = some (.lst xs)) (ne : q ≠ F) : LineAt H' q k a n d :=
  ⟨b _ _ h.hq ne, fun i hi => (h.p i hi).but b (h.ne hF i hi)⟩
theorem Gd.zero : Gd 0 1 := ⟨⟨by decide, by decide, by decide⟩, Nat.coprime_one_right _⟩
theorem Gd.one {n : Int} (h : n.natAbs < 2 ^ 67) : Gd n 1 := ⟨⟨h, by decide, by decide⟩, Nat.coprime_one_right _⟩
theorem Gd.of {t b : Int} (hb : 0 < b) (h1 : t.natAbs < 2 ^ 67) (h2 : b.natAbs < 2 ^ 67) : Gd (RT.top t b) (RT.bot t b) :=
  have h : b ≠ 0 := by omega
  ⟨⟨Nat.lt_of_le_of_lt (RT.top_le h) h1, Nat.lt_of_le_of_lt (RT.bot_le h) h2, RT.bot_pos h⟩, RT.cop h⟩
theorem Gds.ext {k : Nat} {n d : Nat → Int} {x y : Int} (h : Gds k n d) (g : Gd x y) : Gds (k + 1) (ext n k x) (ext d k y) := fun j hj => by
  by_cases e : j = k
  · subst e; rw [ext_same, ext_same]; exact g
  · rw [ext_lt n x (by omega), ext_lt d y (by omega)]; exact h j (by omega)
def spNumber : Sp := fun vs H Q _ => ∃ (a cl : Addr) (wd : Int), vs = [.ref a, .int wd] ∧ FeedAt H a cl ∧ 0 ≤ wd ∧ wd ≤ 4 ∧ ∀ (r : Addr) (n d : Int) (H' : Hp), FeedAt H' a cl → But a H H' → H r = none → PairAt H' r n d → Gd n d → Q (.ref r) H'
def spLine : Sp := fun vs H Q _ => ∃ (a cl : Addr) (k : Nat) (wd : Int), vs = [.ref a, .int (k : Nat), .int wd] ∧ FeedAt H a cl ∧ 0 ≤ wd ∧ wd ≤ 4 ∧ k ≤ 1000 ∧
  ∀ (r : Addr) (A : Nat → Addr) (n d : Nat → Int) (H' : Hp), FeedAt H' a cl → But a H H' → H r = none → LineAt H' r k A n d → Gds k n d → Q (.ref r) H'
def spLines : Sp := fun vs H Q _ => ∃ (a cl : Addr) (h k : Nat) (wd : Int), vs = [.ref a, .int (h : Nat), .int (k : Nat), .int wd] ∧ FeedAt H a cl ∧ 0 ≤ wd ∧ wd ≤ 4 ∧ h ≤ 1000 ∧ k ≤ 1000 ∧
  ∀ (r : Addr) (R : Nat → Addr) (A : Nat → Nat → Addr) (n d : Nat → Nat → Int) (H' : Hp), FeedAt H' a cl → But a H H' → H r = none → LinesAt H' r h k R A n d → (∀ i, i < h → R i ≠ a) → (∀ i, i < h → Gds k (n i) (d i)) → Q (.ref r) H'
def spSizes : Sp := fun vs H Q _ => ∃ a cl : Addr, vs = [.ref a] ∧ FeedAt H a cl ∧ ∀ (r : Addr) (x y z : Nat) (H' : Hp), FeedAt H' a cl → But a H H' → H r = none → H' r = some (.lst [.int (x : Nat), .int (y : Nat), .int (z : Nat)]) → 1 ≤ x → x ≤ 12 → 1 ≤ y → y ≤ 60 → z ≤ 12 → Q (.ref r) H'
section
variable {P : Program} {w : World} {K : PySem.W.Frag} {mg : Str → Option Value} {base : Heap}
theorem scNu : FnScope ["feed", "wide", "kind", "above"] ["feed", "wide"] (defScope sNumber) := ⟨rfl, rfl, rfl, by decide +kernel, rfl, by decide +kernel, by decide +kernel⟩
theorem scLi : FnScope ["feed", "width", "wide", "k"] ["feed", "width", "wide"] (defScope sLine) := ⟨rfl, rfl, rfl, by decide +kernel, rfl, by decide +kernel, by decide +kernel⟩
theorem scLs : FnScope ["feed", "many", "width", "wide", "found", "k"] ["feed", "many", "width", "wide"] (defScope sLines) := ⟨rfl, rfl, rfl, by decide +kernel, rfl, by decide +kernel, by decide +kernel⟩
theorem scSz : FnScope ["feed", "kind"] ["feed"] (defScope sSizes) := ⟨rfl, rfl, rfl, by decide +kernel, rfl, by decide +kernel, by decide +kernel⟩
theorem ok_number {f fD fG fP : Addr} {fd dD dG dP : FuncData} (F : Fun K "_law_number" "_law_number" sNumber f fd) (T : TxtL mg) (cD : CalN P w K mg base "_law_draw" 1 ["feed", "limit"] spDraw fD dD) (cG : CalN P w K mg base "_law_great" 2 ["feed", "parts"] spGreat fG dG) (cP : CalN P w K mg base "_law_pair" 1 ["above", "below"] spPair fP dP) :
    FnOk P w K mg base CX0 3 f fd ["feed", "wide"] spNumber := by
  refine F.ok scNu (fun vs H Q E h => ?_) (fun cdv A outer s H vs Q E hr h => ?_)
  · obtain ⟨a, cl, wd, rfl, _⟩ := h
    rfl
  · obtain ⟨a, cl, wd, rfl, hF, h0, h1, kk⟩ := h
    have hr1 : Room 1 _ := hr.mono (by decide)
    refine ⟨_, pss_cons (ps_set (i := 2) scNu.nd rfl (.inl rfl) (pe_call cD.G hr1 rfl cD.m cD.kp cD.b .nil pass0 (pa_cons (pv 0) (pa_cons pe_int pa_nil))))
      (pss_cons (ps_if (pt_cmpR op_lt (pv 2) pe_int (nomark _)) (pss_one (ps_ret (pe_tup (pa_cons pe_int (pa_cons pe_int pa_nil))))) pss_nil)
      (pss_cons (ps_if (pt_cmpR op_lt (pv 2) pe_int (nomark _)) (pss_one (ps_ret (pe_tup (pa_cons (pe_op op_sub (pe_call cD.G hr1 rfl cD.m cD.kp cD.b .nil pass0 (pa_cons (pv 0) (pa_cons pe_int pa_nil))) pe_int) (pa_cons pe_int pa_nil))))) pss_nil)
      (C8.pss_cut (ps_if (PW.pt (pw_and (pt_cmpR op_eq (pv 2) pe_int (nomark _)) (pw_and1 (pt_cmpR op_gt (pv 1) pe_int (nomark _)))))
        (pss_cons (ps_set (i := 3) scNu.nd rfl (.inl rfl) (pe_op op_mul (pe_call cG.G hr rfl cG.m cG.kp cG.b .nil pass0 (pa_cons (pv 0) (pa_cons (pv 1) pa_nil))) (pe_op op_sub pe_int (pe_op op_mul pe_int (pe_call cD.G hr1 rfl cD.m cD.kp cD.b .nil pass0 (pa_cons (pv 0) (pa_cons pe_int pa_nil)))))))
        (pss_one (ps_ret (pe_call cP.G hr1 rfl cP.m cP.kp cP.b .nil pass0 (pa_cons (pv 3) (pa_cons (pe_callB (call_max2 rfl) (by rfl) T.max (by decide +kernel) (pa_cons pe_int (pa_cons (pe_call cG.G hr rfl cG.m cG.kp cG.b .nil pass0 (pa_cons (pv 0) (pa_cons (pv 1) pa_nil))) pa_nil))) pa_nil)))))) pss_nil)
      (pss_one (ps_ret (pe_call cP.G hr1 rfl cP.m cP.kp cP.b .nil pass0 (pa_cons (pe_op op_sub (pe_call cD.G hr1 rfl cD.m cD.kp cD.b .nil pass0 (pa_cons (pv 0) (pa_cons pe_int pa_nil))) pe_int)
        (pa_cons (pe_op op_add pe_int (pe_call cD.G hr1 rfl cD.m cD.kp cD.b .nil pass0 (pa_cons (pv 0) (pa_cons pe_int pa_nil)))) pa_nil)))))))), ?_⟩
    refine ⟨_, rfl, a, cl, 8, rfl, hF, by decide, by decide, fun kd H1 _ _ f1 b1 => ?_⟩
    refine ⟨_, rfl, _, _, rfl, rfl, _, rfl, ?_⟩
    refine ite2 (fun _ => ?_) (fun _ => ?_)
    · refine ⟨(by show 2 ≤ sizeLine; decide), fun r nr => ?_⟩
      exact kk r 0 1 _ (f1.same (Same.upd nr)) (b1.trans (Same.but (Same.upd nr))) (b1.free nr f1) upd_same Gd.zero
    refine ⟨_, rfl, _, _, rfl, rfl, _, rfl, ?_⟩
    refine ite2 (fun _ => ?_) (fun _ => ?_)
    · refine ⟨_, rfl, a, cl, 9, rfl, f1, by decide, by decide, fun x H2 x0 x1 f2 b2 => ⟨_, _, rfl, rfl, (by show 2 ≤ sizeLine; decide), fun r nr => ?_⟩⟩
      have b2 := b1.trans b2
      exact kk r (x - 4) 1 _ (f2.same (Same.upd nr)) (b2.trans (Same.but (Same.upd nr))) (b2.free nr f2) upd_same (Gd.one (Nat.lt_of_lt_of_le (show (x - 4).natAbs < 1000 by omega) (by decide)))
    refine ⟨fun σ' H' => ∃ o, σ' = [some (.ref a), some (.int wd), some (.int kd), o] ∧ FeedAt H' a cl ∧ But a H H', ?_, ?_⟩
    · refine ⟨_, rfl, rfl, _, rfl, ?_⟩
      refine ite2 (fun _ => ?_) (fun _ => ⟨_, rfl, f1, b1⟩)
      refine ⟨_, rfl, _, _, rfl, rfl, _, rfl, ?_⟩
      refine ite2 (fun _ => ?_) (fun _ => ⟨_, rfl, f1, b1⟩)
      refine ⟨_, rfl, _, rfl, a, cl, wd, rfl, f1, by omega, by omega, fun g H2 g0 g1 f2 b2 => ?_⟩
      have hL : (100000 : Int) ^ wd.toNat ≤ 100000000000000000000 := by
        have h4 : wd.toNat ≤ 4 := by omega
        have : (100000 : Nat) ^ wd.toNat ≤ 100000 ^ 4 := Nat.pow_le_pow_right (by decide) h4
        have e : ((100000 ^ wd.toNat : Nat) : Int) = (100000 : Int) ^ wd.toNat := by rw [Int.natCast_pow]; rfl
        rw [← e]
        omega
      have p67 : (2 : Nat) ^ 67 = 147573952589676412928 := by decide
      refine ⟨_, rfl, a, cl, 2, rfl, f2, by decide, by decide, fun z H3 z0 z1 f3 b3 => ⟨_, _, rfl, rfl, .inl (by decide), _, _, rfl, rfl, _, _, rfl, rfl, .inr (by omega), ?_⟩⟩
      refine ⟨_, rfl, _, rfl, _, rfl, a, cl, wd, rfl, f3, by omega, by omega, fun g' H4 g0' g1' f4 b4 => ⟨_, _, rfl, ?_⟩⟩
      have hz : z = 0 ∨ z = 1 := by omega
      have hsm : (g * (1 - 2 * z)).natAbs < 2 ^ 67 := by
        rw [p67]
        rcases hz with rfl | rfl <;> omega
      have hd : (0 : Int) < (if g' > 1 then g' else 1) ∧ (if g' > 1 then g' else 1 : Int).natAbs < 2 ^ 67 := by
        rw [p67]
        split <;> omega
      refine ⟨_, _, rfl, by omega, Nat.lt_trans hd.2 (Nat.pow_lt_pow_right (by decide) (by decide)), fun r H5 s5 nr hR => ?_⟩
      have b4 := b1.trans (b2.trans (b3.trans b4))
      exact kk r _ _ H5 (f4.same s5) (b4.trans (Same.but s5)) (b4.free nr f4) hR (Gd.of hd.1 hsm hd.2)
    rintro σ' H2 ⟨o, rfl, f2, b2⟩
    refine ⟨_, rfl, a, cl, 19, rfl, f2, by decide, by decide, fun x H3 x0 x1 f3 b3 => ⟨_, _, rfl, rfl, ?_⟩⟩
    refine ⟨_, rfl, a, cl, 6, rfl, f3, by decide, by decide, fun y H4 y0 y1 f4 b4 => ⟨_, _, rfl, rfl, ?_⟩⟩
    have b4 := b2.trans (b3.trans b4)
    have p67 : (2 : Nat) ^ 67 > 1000 := by decide
    refine ⟨_, _, rfl, by omega, Nat.lt_trans (show (1 + y).natAbs < 2 ^ 67 by omega) (Nat.pow_lt_pow_right (by decide) (by decide)), fun r H5 s5 nr hR => ?_⟩
    exact kk r _ _ H5 (f4.same s5) (b4.trans (Same.but s5)) (b4.free nr f4) hR (Gd.of (by omega) (by omega) (by omega))
theorem ok_line {f fN : Addr} {fd dN : FuncData} (F : Fun K "_law_line" "_law_line" sLine f fd) (T : TxtL mg) (cN : CalN P w K mg base "_law_number" 3 ["feed", "wide"] spNumber fN dN) :
    FnOk P w K mg base CX0 4 f fd ["feed", "width", "wide"] spLine := by
  refine F.ok scLi (fun vs H Q E h => ?_) (fun cdv A outer s H vs Q E hr h => ?_)
  · obtain ⟨a, cl, k, wd, rfl, _⟩ := h
    rfl
  · obtain ⟨a, cl, k, wd, rfl, hF, h0, h1, hk, kk⟩ := h
    refine ⟨_, pss_one (ps_ret (pe_lc (own := [("k", 3)]) (g := gName 3) (tt := tYes) rfl scLi.nd (pi_range1 rfl T.range (pa_cons (pv 1) pa_nil)) (blkOk_by (N := ["feed", "width", "wide", "k"]) (sc := defScope sLine) (by decide +kernel))
        (fun _ _ _ _ _ => pg_name (i := 3) scLi.nd rfl (Or.inl rfl)) (fun _ _ _ _ _ => pts_nil) (fun _ _ _ _ _ => pe_call cN.G hr rfl cN.m cN.kp cN.b .nil pass0 (pa_cons (pv 0) (pa_cons (pv 2) pa_nil))))), ?_⟩
    refine ⟨_, rfl, _, rfl, by omega, by omega, fun D nD => ?_⟩
    have Da : D ≠ a := fun e => by obtain ⟨xs, q⟩ := hF.lst; rw [← e, nD] at q; cases q
    have Dc : D ≠ cl := fun e => by obtain ⟨xs, q⟩ := hF.lst2; rw [← e, nD] at q; cases q
    refine lc_range (lo := 0) (n := k) (fun i H2 => ∃ A n d, H2 D = some (.lst (refs i A)) ∧ (∀ j, j < i → PairAt H2 (A j) (n j) (d j)) ∧ Gds i n d ∧ FeedAt H2 a cl ∧ But a H H2)
      ⟨fun _ => 0, fun _ => 0, fun _ => 0, upd_same, fun j hj => absurd hj (by omega), fun j hj => absurd hj (by omega), hF.other Da Dc, Same.but (Same.upd nD)⟩ ?_ ?_
    · rintro i H2 hi ⟨A, n, d, hD, hp, hg, f2, b2⟩
      refine ⟨rfl, ?_⟩
      refine ⟨_, rfl, _, rfl, a, cl, wd, rfl, f2, h0, h1, fun r x y H3 f3 b3 nr hR g => ?_⟩
      have hD3 := b3 _ _ hD Da
      obtain ⟨xs2, ha2⟩ := f2.lst
      refine ⟨_, hD3, by rw [refs_len]; exact small1000 (by omega), ext A i r, ext n i x, ext d i y, by rw [upd_same, refs_ext], fun j hj => ?_, hg.ext g, f3.other Da Dc, fun b o e ne => ?_⟩
      · by_cases e : j = i
        · subst e; rw [ext_same, ext_same, ext_same]
          exact hR.other (hR.ne hD3)
        · rw [ext_lt A r (by omega), ext_lt n x (by omega), ext_lt d y (by omega)]
          have q := (hp j (by omega)).but b3 ((hp j (by omega)).ne ha2)
          exact q.other (q.ne hD3)
      · rw [upd_ne (ne_of_none e nD)]
        exact b2.trans b3 b o e ne
    · rintro H2 ⟨A, n, d, hD, hp, hg, f2, b2⟩
      exact kk D A n d H2 f2 b2 nD ⟨hD, hp⟩ hg
theorem ok_lines {f fN : Addr} {fd dN : FuncData} (F : Fun K "_law_lines" "_law_lines" sLines f fd) (T : TxtL mg) (cN : CalN P w K mg base "_law_line" 4 ["feed", "width", "wide"] spLine fN dN) :
    FnOk P w K mg base CX0 5 f fd ["feed", "many", "width", "wide"] spLines := by
  refine F.ok scLs (fun vs H Q E h => ?_) (fun cdv A outer s H vs Q E hr h => ?_)
  · obtain ⟨a, cl, h, k, wd, rfl, _⟩ := h
    rfl
  · obtain ⟨a, cl, h, k, wd, rfl, hF, h0, h1, hh, hk, kk⟩ := h
    refine ⟨_, pss_cons (ps_set (i := 4) scLs.nd rfl (.inl rfl) (pe_lst pa_nil))
      (pss_cons (ps_for PassesOwn.never rfl (pi_range1 rfl T.range (pa_cons (pv 1) pa_nil)) (pg_name (i := 5) scLs.nd rfl (.inl rfl))
        (pss_one (ps_expr (pe_bm PySem.F.plainAttrs_list PySem.F.slot_list_append PySem.F.type_list_append mt_append (pv 4) (pa_cons (pe_call cN.G hr rfl cN.m cN.kp cN.b .nil pass0 (pa_cons (pv 0) (pa_cons (pv 2) (pa_cons (pv 3) pa_nil)))) pa_nil)))))
      (pss_one (ps_ret (pv 4)))), ?_⟩
    refine ⟨(by show 0 ≤ sizeLine; decide), fun D nD => ?_⟩
    have Da : D ≠ a := fun e => by obtain ⟨xs, q⟩ := hF.lst; rw [← e, nD] at q; cases q
    have Dc : D ≠ cl := fun e => by obtain ⟨xs, q⟩ := hF.lst2; rw [← e, nD] at q; cases q
    refine ⟨_, rfl, _, rfl, by omega, by omega, for_range (n := h) (fun i σ H2 => ∃ o R A n d, σ = [some (.ref a), some (.int (h : Nat)), some (.int (k : Nat)), some (.int wd), some (.ref D), o] ∧ H2 D = some (.lst (refs i R)) ∧ (∀ j, j < i → LineAt H2 (R j) k (A j) (n j) (d j) ∧ R j ≠ D ∧ R j ≠ a ∧ Gds k (n j) (d j)) ∧ FeedAt H2 a cl ∧ But a H H2)
      ⟨_, fun _ => 0, fun _ _ => 0, fun _ _ => 0, fun _ _ => 0, rfl, upd_same, fun j hj => absurd hj (by omega), hF.other Da Dc, Same.but (Same.upd nD)⟩ ?_ ?_⟩
    · rintro i σ H2 hi ⟨o, R, A, n, d, rfl, hD, hp, f2, b2⟩
      refine ⟨_, rfl, .inl ⟨rfl, _, SqL.of hD⟩, _, rfl, _, rfl, _, rfl, a, cl, k, wd, rfl, f2, h0, h1, hk, fun r B x y H3 f3 b3 nr hR g => ?_⟩
      have hD3 := b3 _ _ hD Da
      obtain ⟨xs2, ha2⟩ := f2.lst
      have rD : r ≠ D := (ne_of_none hD nr).symm
      have ra : r ≠ a := (ne_of_none ha2 nr).symm
      refine ⟨D, _, _, rfl, rfl, hD3, by rw [refs_len]; exact small1000 (by omega), _, ext R i r, ext A i B, ext n i x, ext d i y, rfl, by rw [upd_same, refs_ext], fun j hj => ?_, f3.other Da Dc, fun b o e ne => ?_⟩
      · by_cases e : j = i
        · subst e; rw [ext_same, ext_same, ext_same, ext_same]
          exact ⟨hR.other hD3 rD, rD, ra, g⟩
        · rw [ext_lt R r (by omega), ext_lt A B (by omega), ext_lt n x (by omega), ext_lt d y (by omega)]
          obtain ⟨q1, q2, q3, q4⟩ := hp j (by omega)
          exact ⟨(q1.but b3 ha2 q3).other hD3 q2, q2, q3, q4⟩
      · rw [upd_ne (ne_of_none e nD)]
        exact b2.trans b3 b o e ne
    · rintro σ H2 ⟨o, R, A, n, d, rfl, hD, hp, f2, b2⟩
      exact ⟨_, rfl, kk D R A n d H2 f2 b2 nD ⟨hD, fun i hi => (hp i hi).1⟩ (fun i hi => (hp i hi).2.2.1) fun i hi => (hp i hi).2.2.2⟩
theorem ok_sizes {f fD : Addr} {fd dD : FuncData} (F : Fun K "_law_sizes" "_law_sizes" sSizes f fd) (cD : CalN P w K mg base "_law_draw" 1 ["feed", "limit"] spDraw fD dD) :
    FnOk P w K mg base CX0 2 f fd ["feed"] spSizes := by
  refine F.ok scSz (fun vs H Q E h => ?_) (fun cdv A outer s H vs Q E hr h => ?_)
  · obtain ⟨a, cl, rfl, _⟩ := h
    rfl
  · obtain ⟨a, cl, rfl, hF, kk⟩ := h
    refine ⟨_, pss_cons (ps_set (i := 1) scSz.nd rfl (.inl rfl) (pe_call cD.G hr rfl cD.m cD.kp cD.b .nil pass0 (pa_cons (pv 0) (pa_cons pe_int pa_nil))))
      (pss_cons (ps_if (pt_cmpR op_eq (pv 1) pe_int (nomark _)) (pss_one (ps_ret (pe_lst (pa_cons pe_int (pa_cons pe_int (pa_cons (pe_op op_add pe_int (pe_call cD.G hr rfl cD.m cD.kp cD.b .nil pass0 (pa_cons (pv 0) (pa_cons pe_int pa_nil)))) pa_nil)))))) pss_nil)
      (pss_cons (ps_if (pt_cmpR op_eq (pv 1) pe_int (nomark _)) (pss_one (ps_ret (pe_lst (pa_cons (pe_op op_add pe_int (pe_call cD.G hr rfl cD.m cD.kp cD.b .nil pass0 (pa_cons (pv 0) (pa_cons pe_int pa_nil)))) (pa_cons (pe_op op_add pe_int (pe_call cD.G hr rfl cD.m cD.kp cD.b .nil pass0 (pa_cons (pv 0) (pa_cons pe_int pa_nil)))) (pa_cons (pe_op op_add pe_int (pe_call cD.G hr rfl cD.m cD.kp cD.b .nil pass0 (pa_cons (pv 0) (pa_cons pe_int pa_nil)))) pa_nil)))))) pss_nil)
      (pss_one (ps_ret (pe_lst (pa_cons (pe_op op_add pe_int (pe_call cD.G hr rfl cD.m cD.kp cD.b .nil pass0 (pa_cons (pv 0) (pa_cons pe_int pa_nil)))) (pa_cons (pe_op op_add pe_int (pe_call cD.G hr rfl cD.m cD.kp cD.b .nil pass0 (pa_cons (pv 0) (pa_cons pe_int pa_nil)))) (pa_cons (pe_call cD.G hr rfl cD.m cD.kp cD.b .nil pass0 (pa_cons (pv 0) (pa_cons pe_int pa_nil))) pa_nil)))))))), ?_⟩
    refine ⟨_, rfl, a, cl, 16, rfl, hF, by decide, by decide, fun kd H1 _ _ f1 b1 => ?_⟩
    have toN : ∀ x : Int, 0 ≤ x → ((x.toNat : Nat) : Int) = x := fun x h => Int.toNat_of_nonneg h
    refine ⟨_, rfl, rfl, _, rfl, ?_⟩
    refine ite2 (fun _ => ?_) (fun _ => ?_)
    · refine ⟨_, rfl, a, cl, 2, rfl, f1, by decide, by decide, fun z H2 z0 z1 f2 b2 => ⟨_, _, rfl, rfl, (by show 3 ≤ sizeLine; decide), fun r nr => ?_⟩⟩
      have b2 := b1.trans b2
      exact kk r 1 60 (1 + z).toNat _ (f2.same (Same.upd nr)) (b2.trans (Same.but (Same.upd nr))) (b2.free nr f2) (by rw [upd_same, toN _ (by omega)]; rfl) (by omega) (by omega) (by omega) (by omega) (by omega)
    refine ⟨_, rfl, rfl, _, rfl, ?_⟩
    refine ite2 (fun _ => ?_) (fun _ => ?_)
    · refine ⟨_, rfl, a, cl, 12, rfl, f1, by decide, by decide, fun x H2 x0 x1 f2 b2 => ⟨_, _, rfl, rfl, ?_⟩⟩
      refine ⟨_, rfl, a, cl, 12, rfl, f2, by decide, by decide, fun y H3 y0 y1 f3 b3 => ⟨_, _, rfl, rfl, ?_⟩⟩
      refine ⟨_, rfl, a, cl, 12, rfl, f3, by decide, by decide, fun z H4 z0 z1 f4 b4 => ⟨_, _, rfl, rfl, (by show 3 ≤ sizeLine; decide), fun r nr => ?_⟩⟩
      have b4 := b1.trans (b2.trans (b3.trans b4))
      exact kk r (1 + x).toNat (1 + y).toNat (1 + z).toNat _ (f4.same (Same.upd nr)) (b4.trans (Same.but (Same.upd nr))) (b4.free nr f4) (by rw [upd_same, toN _ (by omega), toN _ (by omega), toN _ (by omega)]) (by omega) (by omega) (by omega) (by omega) (by omega)
    · refine ⟨_, rfl, a, cl, 4, rfl, f1, by decide, by decide, fun x H2 x0 x1 f2 b2 => ⟨_, _, rfl, rfl, ?_⟩⟩
      refine ⟨_, rfl, a, cl, 4, rfl, f2, by decide, by decide, fun y H3 y0 y1 f3 b3 => ⟨_, _, rfl, rfl, ?_⟩⟩
      refine ⟨_, rfl, a, cl, 5, rfl, f3, by decide, by decide, fun z H4 z0 z1 f4 b4 => ⟨(by show 3 ≤ sizeLine; decide), fun r nr => ?_⟩⟩
      have b4 := b1.trans (b2.trans (b3.trans b4))
      exact kk r (1 + x).toNat (1 + y).toNat z.toNat _ (f4.same (Same.upd nr)) (b4.trans (Same.but (Same.upd nr))) (b4.free nr f4) (by rw [upd_same, toN _ (by omega), toN _ (by omega), toN _ (by omega)]) (by omega) (by omega) (by omega) (by omega) (by omega)
end
end RX

set_option Elab.async false
set_option maxRecDepth 100000
set_option exponentiation.threshold 100000
namespace RT
/-- a row times the unit table -/
theorem due_unit {n d : Nat → Int} {j : Nat} {k : Nat} (hp : 0 < d j) (hc : Nat.Coprime (n j).natAbs (d j).natAbs) : ∀ t, t ≤ k → due n d (fun i => if i = j then 1 else 0) (fun _ => 1) t = if t ≤ j then (0, 1) else (n j, d j)
  | 0, _ => by rw [if_pos (Nat.zero_le _)]; rfl
  | t + 1, h => by
    have ih := due_unit (k := k) hp hc t (by omega)
    by_cases e : t = j
    · subst e
      rw [if_pos (Nat.le_refl _)] at ih
      rw [if_neg (by omega)]
      by_cases z : n t = 0
      · rw [due_no (fun h => h.1 z), ih, z]
        have hc' : Nat.gcd (n t).natAbs (d t).natAbs = 1 := hc
        rw [z] at hc'
        have h1 : (d t).natAbs = 1 := by
          rw [show (0 : Int).natAbs = 0 from rfl, Nat.gcd_zero_left] at hc'
          exact hc'
        have : d t = 1 := by omega
        rw [this]
      · rw [due_yes z (by show (if t = t then (1 : Int) else 0) ≠ 0; rw [if_pos rfl]; decide), ih]
        have e1 : n t * (if t = t then (1 : Int) else 0) = n t := by rw [if_pos rfl, Int.mul_one]
        have e2 : d t * 1 = d t := Int.mul_one _
        have kp := keeps hp hc
        show (top ((0 : Int) * bot (n t * (if t = t then (1 : Int) else 0)) (d t * 1) + top (n t * (if t = t then (1 : Int) else 0)) (d t * 1) * 1) (1 * bot (n t * (if t = t then (1 : Int) else 0)) (d t * 1)), bot ((0 : Int) * bot (n t * (if t = t then (1 : Int) else 0)) (d t * 1) + top (n t * (if t = t then (1 : Int) else 0)) (d t * 1) * 1) (1 * bot (n t * (if t = t then (1 : Int) else 0)) (d t * 1))) = _
        rw [e1, e2, kp.1, kp.2, Int.zero_mul, Int.zero_add, Int.mul_one, Int.one_mul, kp.1, kp.2]
    · rw [due_no (fun h => h.2 (by show (if t = j then (1 : Int) else 0) = 0; rw [if_neg e])), ih]
      by_cases h2 : t ≤ j
      · rw [if_pos h2, if_pos (by omega)]
      · rw [if_neg h2, if_neg (by omega)]
end RT
namespace RX
open PySem L2
/-! ### the due products, and what is asked -/
abbrev sProd : Stmt := topS 29
abbrev sLUnit : Stmt := topS 31
abbrev sAsked : Stmt := topS 32
theorem nz {x : Int} (z : (!decide (V.int x = V.int 0)) = true) : x ≠ 0 := fun e => by subst e; rw [decide_eq_true rfl] at z; cases z
theorem zz {x : Int} (z : ¬ (!decide (V.int x = V.int 0)) = true) : x = 0 := Decidable.byContradiction fun h => z (by rw [decide_eq_false (fun e => h (by injection e))]; rfl)
theorem Gds.fr {k : Nat} {n d : Nat → Int} (h : Gds k n d) : Frs k n d := fun i hi => (h i hi).f
def spProd : Sp := fun vs H Q _ => ∃ (p q : Addr) (h k w : Nat) (U R : Nat → Addr) (a A : Nat → Nat → Addr) (n d m e : Nat → Nat → Int), vs = [.ref p, .ref q, .int (w : Nat)] ∧ LinesAt H p h k U a n d ∧ LinesAt H q k w R A m e ∧ (∀ i, i < h → Gds k (n i) (d i)) ∧ (∀ i, i < k → Gds w (m i) (e i)) ∧
  h ≤ 1000 ∧ k ≤ 60 ∧ w ≤ 1000 ∧ ∀ (r : Addr) (S : Nat → Addr) (B : Nat → Nat → Addr) (H' : Hp), Same H H' → H r = none → LinesAt H' r h w S B (fun i j => (cell (n i) (d i) m e k j).1) (fun i j => (cell (n i) (d i) m e k j).2) → Q (.ref r) H'
def spLUnit : Sp := fun vs H Q _ => ∃ k : Nat, vs = [.int (k : Nat)] ∧ k ≤ 1000 ∧ ∀ (r : Addr) (S : Nat → Addr) (B : Nat → Nat → Addr) (H' : Hp), Same H H' → H r = none → LinesAt H' r k k S B one01 (fun _ _ => 1) → Q (.ref r) H'
def spAsked : Sp := fun vs H Q _ => ∃ (p q : Addr) (h k w : Nat) (U R : Nat → Addr) (a A : Nat → Nat → Addr) (n d m e : Nat → Nat → Int), vs = [.ref p, .ref q, .int (w : Nat)] ∧ LinesAt H p h k U a n d ∧ LinesAt H q k w R A m e ∧ (∀ i, i < h → Gds k (n i) (d i)) ∧ (∀ i, i < k → Gds w (m i) (e i)) ∧
  0 < h ∧ h ≤ 1000 ∧ 0 < k ∧ k ≤ 60 ∧ w ≤ 1000 ∧ ∀ H' : Hp, Same H H' → Q (.bl true) H'
section
variable {P : Program} {w : World} {K : PySem.W.Frag} {mg : Str → Option Value} {base : Heap}
theorem scPr : FnScope ["one", "two", "width", "found", "line", "done", "place", "total", "k"] ["one", "two", "width"] (defScope sProd) := ⟨rfl, rfl, rfl, by decide +kernel, rfl, by decide +kernel, by decide +kernel⟩
theorem scLU : FnScope ["size", "k", "place"] ["size"] (defScope sLUnit) := ⟨rfl, rfl, rfl, by decide +kernel, rfl, by decide +kernel, by decide +kernel⟩
theorem scAs : FnScope ["one", "two", "width", "due", "first", "second"] ["one", "two", "width"] (defScope sAsked) := ⟨rfl, rfl, rfl, by decide +kernel, rfl, by decide +kernel, by decide +kernel⟩
theorem ok_prod {f fS fB : Addr} {fd dS dB : FuncData} (F : Fun K "_law_product" "_law_product" sProd f fd) (T : TxtL mg) (cS : CalN P w K mg base "_law_sum" 2 ["one", "two"] spSum fS dS) (cB : CalN P w K mg base "_law_by" 2 ["one", "two"] spBy fB dB) :
    FnOk P w K mg base CX0 3 f fd ["one", "two", "width"] spProd := by
  refine F.ok scPr (fun vs H Q E h => ?_) (fun cdv A outer s H vs Q E hr h => ?_)
  · obtain ⟨p, q, h, k, w, U, R, a, A, n, d, m, e, rfl, _⟩ := h
    rfl
  · obtain ⟨p, q, h, k, ww, U, R, a, A', n, d, m, e, rfl, hp, hq, gn, gm, hh, hk, hw, kk⟩ := h
    refine ⟨_, pss_cons (ps_set (i := 3) scPr.nd rfl (.inl rfl) (pe_lst pa_nil))
      (pss_cons (ps_for PassesOwn.never rfl (pi_list (pv 0)) (pg_name (i := 4) scPr.nd rfl (.inl rfl))
        (pss_cons (ps_set (i := 5) scPr.nd rfl (.inl rfl) (pe_lst pa_nil))
        (pss_cons (ps_for PassesOwn.never rfl (pi_range1 rfl T.range (pa_cons (pv 2) pa_nil)) (pg_name (i := 6) scPr.nd rfl (.inl rfl))
          (pss_cons (ps_set (i := 7) scPr.nd rfl (.inl rfl) (pe_tup (pa_cons pe_int (pa_cons pe_int pa_nil))))
          (pss_cons (ps_for PassesOwn.never rfl (pi_range1 rfl T.range (pa_cons (pe_callB call_len_seq (by rfl) T.len PySem.boot_len (pa_cons (pv 4) pa_nil)) pa_nil)) (pg_name (i := 8) scPr.nd rfl (.inl rfl))
            (pss_one (ps_if (PW.pt (pw_and (pt_cmpR op_ne (pe_ix ix_tup (pe_ix ix_list (pv 4) (pv 8) (fun _ _ => rfl)) pe_int (fun _ _ => rfl)) pe_int (nomark _))
                (pw_and1 (pt_cmpR op_ne (pe_ix ix_tup (pe_ix ix_list (pe_ix ix_list (pv 1) (pv 8) (fun _ _ => rfl)) (pv 6) (fun _ _ => rfl)) pe_int (fun _ _ => rfl)) pe_int (nomark _)))))
              (pss_one (ps_set (i := 7) scPr.nd rfl (.inl rfl) (pe_call cS.G hr rfl cS.m cS.kp cS.b .nil pass0 (pa_cons (pv 7) (pa_cons (pe_call cB.G hr rfl cB.m cB.kp cB.b .nil pass0 (pa_cons (pe_ix ix_list (pv 4) (pv 8) (fun _ _ => rfl)) (pa_cons (pe_ix ix_list (pe_ix ix_list (pv 1) (pv 8) (fun _ _ => rfl)) (pv 6) (fun _ _ => rfl)) pa_nil))) pa_nil)))))
              pss_nil)))
          (pss_one (ps_expr (pe_bm PySem.F.plainAttrs_list PySem.F.slot_list_append PySem.F.type_list_append mt_append (pv 5) (pa_cons (pv 7) pa_nil)))))))
        (pss_one (ps_expr (pe_bm PySem.F.plainAttrs_list PySem.F.slot_list_append PySem.F.type_list_append mt_append (pv 3) (pa_cons (pv 5) pa_nil)))))))
      (pss_one (ps_ret (pv 3)))), ?_⟩
    refine ⟨(by show 0 ≤ sizeLine; decide), fun D nD => ?_⟩
    have s0 : Same H (upd H D (.lst [])) := Same.upd nD
    refine ⟨_, rfl, p, rfl, ⟨_, SqL.of (s0 _ _ hp.hq)⟩, for_list (xs := refs h U) (fun i σ H2 => ∃ o4 o5 o6 o7 o8 S B, σ = [some (.ref p), some (.ref q), some (.int (ww : Nat)), some (.ref D), o4, o5, o6, o7, o8] ∧ H2 D = some (.lst (refs i S)) ∧
        (∀ j, j < i → LineAt H2 (S j) ww (B j) (fun t => (cell (n j) (d j) m e k t).1) (fun t => (cell (n j) (d j) m e k t).2) ∧ S j ≠ D) ∧ Same H H2)
      ⟨_, _, _, _, _, fun _ => 0, fun _ _ => 0, rfl, upd_same, fun j hj => absurd hj (by omega), s0⟩ (fun i σ H2 _ ⟨_, _, _, _, _, _, _, _, _, _, s2⟩ => SqL.of (s2 _ _ hp.hq)) ?_ ?_⟩
    · rintro i x σ H1 hx ⟨o4, o5, o6, o7, o8, S, B, rfl, hD, hS, s1⟩
      obtain ⟨hi, rfl⟩ := refs_lt hx
      have hline := (hp.r i hi).same s1
      have hq1 := hq.same s1
      refine ⟨(by show 0 ≤ sizeLine; decide), fun G nG => ?_⟩
      have GD : G ≠ D := (ne_of_none hD nG).symm
      refine ⟨_, rfl, _, rfl, by omega, by omega, for_range (n := ww) (fun j σ H2 => ∃ o6 o7 o8 b, σ = [some (.ref p), some (.ref q), some (.int (ww : Nat)), some (.ref D), some (.ref (U i)), some (.ref G), o6, o7, o8] ∧ H2 G = some (.lst (refs j b)) ∧
          (∀ t, t < j → PairAt H2 (b t) (cell (n i) (d i) m e k t).1 (cell (n i) (d i) m e k t).2) ∧ Same H1 H2)
        ⟨_, _, _, fun _ => 0, rfl, upd_same, fun j hj => absurd hj (by omega), Same.upd nG⟩ ?_ ?_⟩
      · rintro j σ H2 hj ⟨o6, o7, o8, b, rfl, hG, hb, s2⟩
        refine ⟨(by show 2 ≤ sizeLine; decide), fun t0 n0 => ?_⟩
        have s3 : Same H2 (upd H2 t0 (.tup [.int 0, .int 1])) := Same.upd n0
        have hl3 := (hline.same s2).same s3
        refine ⟨_, rfl, U i, _, rfl, .inl (SqL.of hl3.hq), _, rfl, by rw [refs_len]; omega, by rw [refs_len]; omega, for_range (n := (refs k (a i)).length) (fun t σ H4 => ∃ o8 r, σ = [some (.ref p), some (.ref q), some (.int (ww : Nat)), some (.ref D), some (.ref (U i)), some (.ref G), some (.int (0 + (j : Nat))), some (.ref r), o8] ∧
            PairAt H4 r (RT.due (n i) (d i) (fun i => m i j) (fun i => e i j) t).1 (RT.due (n i) (d i) (fun i => m i j) (fun i => e i j) t).2 ∧ Same H2 H4) ⟨_, t0, rfl, upd_same, s3⟩ ?_ ?_⟩
        · rintro t σ H4 ht ⟨o8, r, rfl, hR, s4⟩
          rw [refs_len] at ht
          have hl4 := (hline.same s2).same s4
          have hq4 := (hq1.same s2).same s4
          have hr4 := hq4.r t ht
          have pa := hl4.p t ht
          have pb := hr4.p j hj
          have ga := gn i hi t ht
          have gb := gm t ht j hj
          refine ⟨_, rfl, _, rfl, U i, _, _, _, rfl, rfl, SqL.of hl4.hq, at_of (Int.zero_add _) (refs_get ht), a i t, _, 0, _, rfl, rfl, pa.t, rfl, rfl, _, rfl, ?_⟩
          refine ite2 (fun z1 => ?_) (fun z1 => ?_)
          · have z1 := nz z1
            refine ⟨_, rfl, _, rfl, q, _, _, _, rfl, rfl, SqL.of hq4.hq, at_of (Int.zero_add _) (refs_get ht), _, rfl, R t, _, _, _, rfl, rfl, SqL.of hr4.hq, at_of (Int.zero_add _) (refs_get hj), A' t j, _, 0, _, rfl, rfl, pb.t, rfl, rfl, _, rfl, ?_⟩
            refine ite2 (fun z2 => ?_) (fun z2 => ?_)
            · have z2 := nz z2
              have du := RT.due_ok (n := n i) (d := d i) (m := fun i => m i j) (e := fun i => e i j) (k := t) fun s hs => ⟨(gn i hi s (by omega)).f, (gm s (by omega) j hj).f⟩
              have hbn : d i t * e t j ≠ 0 := Int.mul_ne_zero (by have := ga.f.p; omega) (by have := gb.f.p; omega)
              have md : ∀ {x : Int}, x.natAbs < 2 ^ 67 → Md x := fun h => Nat.lt_trans h (Nat.pow_lt_pow_right (by decide) (by decide))
              have B1 := RT.prod_lt ga.f.d gb.f.d
              have B2 := RT.prod_lt ga.f.n gb.f.n
              have b8 := Nat.le_trans du.bot (RT.BB_pow (k := t) (by omega))
              refine ⟨_, rfl, _, rfl, _, rfl, U i, _, _, _, rfl, rfl, SqL.of hl4.hq, at_of (Int.zero_add _) (refs_get ht), _, rfl, _, rfl, q, _, _, _, rfl, rfl, SqL.of hq4.hq, at_of (Int.zero_add _) (refs_get ht), _, rfl, R t, _, _, _, rfl, rfl, SqL.of hr4.hq, at_of (Int.zero_add _) (refs_get hj), ?_⟩
              refine ⟨_, _, _, _, _, _, rfl, pa, pb, by have := ga.f.p; omega, by have := gb.f.p; omega, md ga.f.n, md ga.f.d, md gb.f.n, md gb.f.d, Nat.lt_of_le_of_lt B1 (Nat.pow_lt_pow_right (by decide) (by decide)), fun r5 H5 s5 n5 h5 => ?_⟩
              have y0 := RT.bot_pos (t := n i t * m t j) hbn
              have yB : (RT.bot (n i t * m t j) (d i t * e t j)).natAbs ≤ RT.BB := Nat.le_trans (RT.bot_le hbn) B1
              have xB : (RT.top (n i t * m t j) (d i t * e t j)).natAbs ≤ RT.BB := Nat.le_trans (RT.top_le hbn) B2
              refine ⟨_, _, _, _, _, _, rfl, hR.same s5, h5, Int.ne_of_gt du.pos, Int.ne_of_gt y0, Nat.lt_trans (Nat.lt_of_le_of_lt du.top (RT.BB_top (by omega) b8)) (Nat.pow_lt_pow_right (by decide) (by decide)),
                Nat.lt_of_le_of_lt b8 (Nat.pow_lt_pow_right (by decide) (by decide)), Nat.lt_of_le_of_lt xB (Nat.pow_lt_pow_right (by decide) (by decide)), Nat.lt_of_le_of_lt yB (Nat.pow_lt_pow_right (by decide) (by decide)), ?_, fun r6 H6 s6 n6 h6 => ?_⟩
              · show Int.natAbs _ < _
                rw [Int.natAbs_mul]
                refine Nat.lt_of_le_of_lt (Nat.mul_le_mul b8 yB) ?_
                show 2 ^ 8040 * 2 ^ 134 < 2 ^ 8900
                rw [← Nat.pow_add]
                exact Nat.pow_lt_pow_right (by decide) (by decide)
              · refine ⟨_, r6, rfl, ?_, (s4.trans s5).trans s6⟩
                rw [RT.due_yes (n := n i) (d := d i) (m := fun i => m i j) (e := fun i => e i j) (k := t) z1 z2]
                exact h6
            · have z2 := zz z2
              refine ⟨_, r, rfl, ?_, s4⟩
              rw [RT.due_no (n := n i) (d := d i) (m := fun i => m i j) (e := fun i => e i j) (k := t) (fun h => h.2 z2)]
              exact hR
          · have z1 := zz z1
            refine ⟨_, r, rfl, ?_, s4⟩
            rw [RT.due_no (n := n i) (d := d i) (m := fun i => m i j) (e := fun i => e i j) (k := t) (fun h => h.1 z1)]
            exact hR
        · rintro σ H4 ⟨o8, r, rfl, hR, s4⟩
          rw [refs_len] at hR
          have hG4 := s4 _ _ hG
          refine ⟨_, rfl, .inl ⟨rfl, _, SqL.of hG4⟩, _, rfl, G, _, _, rfl, rfl, hG4, by rw [refs_len]; exact small1000 (by omega), _, _, _, ext b j r, rfl, by rw [upd_same, refs_ext], fun t ht => ?_, fun c o e => by rw [upd_ne (ne_of_none e nG)]; exact (s2.trans s4) _ _ e⟩
          by_cases e : t = j
          · subst e; rw [ext_same]
            exact hR.other (hR.ne hG4)
          · rw [ext_lt b r (by omega)]
            have q := (hb t (by omega)).same s4
            exact q.other (q.ne hG4)
      · rintro σ H2 ⟨o6, o7, o8, b, rfl, hG, hb, s2⟩
        have hD2 := s2 _ _ hD
        refine ⟨_, rfl, .inl ⟨rfl, _, SqL.of hD2⟩, _, rfl, D, _, _, rfl, rfl, hD2, by rw [refs_len]; exact small1000 (by omega), _, _, _, _, _, ext S i G, ext B i b, rfl, by rw [upd_same, refs_ext], fun t ht => ?_, fun c o e => by rw [upd_ne (ne_of_none e nD)]; exact (s1.trans s2) _ _ e⟩
        by_cases e : t = i
        · subst e; rw [ext_same, ext_same]
          exact ⟨LineAt.other ⟨hG, hb⟩ hD2 GD, GD⟩
        · rw [ext_lt S G (by omega), ext_lt B b (by omega)]
          obtain ⟨q1, q2⟩ := hS t (by omega)
          exact ⟨(q1.same s2).other hD2 q2, q2⟩
    · rintro σ H2 ⟨o4, o5, o6, o7, o8, S, B, rfl, hD, hS, s1⟩
      rw [refs_len] at hD hS
      exact ⟨_, rfl, kk D S B H2 s1 nD ⟨hD, fun i hi => (hS i hi).1⟩⟩
end
end RX

set_option Elab.async false
set_option maxRecDepth 100000
set_option exponentiation.threshold 100000
namespace RX
open PySem L2
abbrev sLaw : Stmt := topS 33
def spLaw (K : PySem.W.Frag) : Sp := fun vs H Q _ => ∃ (a : Addr) (ns : List Int), vs = [.ref a] ∧ SqL K H a (ns.map V.int) ∧ ns.length ≤ 63 ∧ ∀ H', Q (.bl true) H'
abbrev outLU : Scope := { kind := .function, names := [(".0", .local), ("k", .cell), ("range", .globalImplicit), ("size", .cell)], isGenerator := false, isCoroutine := false }
theorem LinesAt.but {H H' : Hp} {q F : Addr} {h w : Nat} {R : Nat → Addr} {A : Nat → Nat → Addr} {N D : Nat → Nat → Int} {xs : List V} (x : LinesAt H q h w R A N D) (b : But F H H') (hF : H F = some (.lst xs)) (ne : q ≠ F) (nr : ∀ i, i < h → R i ≠ F) : LinesAt H' q h w R A N D :=
  ⟨b _ _ x.hq ne, fun i hi => (x.r i hi).but b hF (nr i hi)⟩
theorem refs_last (k : Nat) (a : Nat → Addr) : atI (refs (k + 1) a) (-1) = some (.ref (a k)) := by
  have : refs (k + 1) a = refs k a ++ [.ref (a k)] := by
    unfold refs
    rw [List.range_succ, List.map_append]
    rfl
  rw [this]
  exact atI_last _ _
section
variable {P : Program} {w : World} {K : PySem.W.Frag} {mg : Str → Option Value} {base : Heap}
theorem ok_lunit {f : Addr} {fd : FuncData} (F : Fun K "_law_unit" "_law_unit" sLUnit f fd) (T : TxtL mg) : FnOk P w K mg base CX0 1 f fd ["size"] spLUnit := by
  refine F.ok scLU (fun vs H Q E h => ?_) (fun cdv A outer s H vs Q E hr h => ?_)
  · obtain ⟨k, rfl, _⟩ := h
    rfl
  · obtain ⟨k, rfl, hk, kk⟩ := h
    refine ⟨_, pss_one (ps_ret (pe_lc (own := [("k", 1)]) (g := gName 1) (tt := tYes) rfl scLU.nd (pi_range1 rfl T.range (pa_cons (pv 0) pa_nil)) (blkOk_by (N := ["size", "k", "place"]) (sc := defScope sLUnit) (by decide +kernel))
        (fun _ _ _ _ _ => pg_name (i := 1) scLU.nd rfl (Or.inr rfl)) (fun _ _ _ _ _ => pts_nil)
        (fun _ _ _ _ _ => pe_lc (own := [("place", 2)]) (g := gName 2) (tt := tYes) rfl scLU.nd (pi_range1 rfl T.range (pa_cons (pv 0) pa_nil)) (blkOk_by (N := ["size", "k", "place"]) (sc := outLU) (by decide +kernel))
          (fun _ _ _ _ _ => pg_name (i := 2) scLU.nd rfl (Or.inl rfl)) (fun _ _ _ _ _ => pts_nil)
          (fun _ _ _ _ _ => pe_tup (pa_cons (pe_callTy call_int1 (by rfl) T.int (by decide +kernel) (pa_cons (pe_cmpR op_eq (pv 1) (pv 2) (nomark _)) pa_nil)) (pa_cons pe_int pa_nil)))))), ?_⟩
    refine ⟨_, rfl, _, rfl, by omega, by omega, fun D nD => ?_⟩
    refine lc_range (lo := 0) (n := k) (fun i H2 => ∃ S B, H2 D = some (.lst (refs i S)) ∧ (∀ j, j < i → LineAt H2 (S j) k (B j) (one01 j) (fun _ => 1) ∧ S j ≠ D) ∧ Same H H2)
      ⟨fun _ => 0, fun _ _ => 0, upd_same, fun j hj => absurd hj (by omega), Same.upd nD⟩ ?_ ?_
    · rintro i H2 hi ⟨S, B, hD, hS, s2⟩
      refine ⟨rfl, ?_⟩
      refine ⟨_, rfl, _, rfl, by omega, by omega, fun G nG => ?_⟩
      have GD : G ≠ D := (ne_of_none hD nG).symm
      refine lc_range (lo := 0) (n := k) (fun j H3 => ∃ b, H3 G = some (.lst (refs j b)) ∧ (∀ t, t < j → PairAt H3 (b t) (one01 i t) 1) ∧ Same H2 H3) ⟨fun _ => 0, upd_same, fun j hj => absurd hj (by omega), Same.upd nG⟩ ?_ ?_
      · rintro j H3 hj ⟨b, hG, hb, s3⟩
        refine ⟨rfl, ?_⟩
        refine ⟨_, rfl, _, rfl, rfl, .inr ⟨_, rfl, (by show 2 ≤ sizeLine; decide), fun r nr => ?_⟩⟩
        have s4 : Same H3 (upd H3 r (.tup [.int (if decide (V.int (0 + (i : Int)) = V.int (0 + (j : Int))) = true then 1 else 0), .int 1])) := Same.upd nr
        have hG4 := s4 _ _ hG
        have hR : PairAt (upd H3 r (.tup [.int (if decide (V.int (0 + (i : Int)) = V.int (0 + (j : Int))) = true then 1 else 0), .int 1])) r (one01 i j) 1 := by
          show upd H3 r _ r = _
          rw [upd_same]
          congr 4
          unfold one01
          by_cases e : i = j
          · subst e; rw [if_pos (decide_eq_true rfl), if_pos rfl]
          · rw [if_neg e, if_neg (fun z => e (by have := of_decide_eq_true z; injection this; omega))]
        refine ⟨_, hG4, by rw [refs_len]; exact small1000 (by omega), ext b j r, by rw [upd_same, refs_ext], fun t ht => ?_, fun c o e => by rw [upd_ne (ne_of_none e nG)]; exact (s3.trans s4) _ _ e⟩
        by_cases e : t = j
        · subst e; rw [ext_same]
          exact hR.other (hR.ne hG4)
        · rw [ext_lt b r (by omega)]
          have q := (hb t (by omega)).same s4
          exact q.other (q.ne hG4)
      · rintro H3 ⟨b, hG, hb, s3⟩
        have hD3 := s3 _ _ hD
        refine ⟨_, hD3, by rw [refs_len]; exact small1000 (by omega), ext S i G, ext B i b, by rw [upd_same, refs_ext], fun t ht => ?_, fun c o e => by rw [upd_ne (ne_of_none e nD)]; exact (s2.trans s3) _ _ e⟩
        by_cases e : t = i
        · subst e; rw [ext_same, ext_same]
          exact ⟨LineAt.other ⟨hG, hb⟩ hD3 GD, GD⟩
        · rw [ext_lt S G (by omega), ext_lt B b (by omega)]
          obtain ⟨q1, q2⟩ := hS t (by omega)
          exact ⟨(q1.same s3).other hD3 q2, q2⟩
    · rintro H2 ⟨S, B, hD, hS, s2⟩
      exact kk D S B H2 s2 nD ⟨hD, fun i hi => (hS i hi).1⟩
theorem ok_asked {f fP fR fT fE fW fL C : Addr} {fd dP dR dT dE dW dL : FuncData} (F : Fun K "_law_asked" "_law_asked" sAsked f fd) (T : TxtL mg) (cP : CalN P w K mg base "_law_product" 3 ["one", "two", "width"] spProd fP dP) (cR : CalN P w K mg base "_law_ratio_table" 4 ["lines"] (spRatT C) fR dR)
    (cT : CalN P w K mg base "times" 5 ["one", "other"] (spTimes C) fT dT) (cE : CalN P w K mg base "_law_same_table" 4 ["actual", "due"] (spSameTab C) fE dE) (cW : CalN P w K mg base "row_times" 5 ["row", "table"] (spRowT C) fW dW) (cL : CalN P w K mg base "_law_same_row" 3 ["actual", "due"] (spSameRow C) fL dL) :
    FnOk P w K mg base CX0 6 f fd ["one", "two", "width"] spAsked := by
  refine F.ok scAs (fun vs H Q E h => ?_) (fun cdv A outer s H vs Q E hr h => ?_)
  · obtain ⟨p, q, h, k, w, U, R, a, A, n, d, m, e, rfl, _⟩ := h
    rfl
  · obtain ⟨p, q, h, k, ww, U, R, a, A', n, d, m, e, rfl, hp, hq, gn, gm, h0, hh, k0, hk, hw, kk⟩ := h
    have hr3 : Room 3 _ := hr.mono (by decide)
    have hr4 : Room 4 _ := hr.mono (by decide)
    refine ⟨_, pss_cons (ps_set (i := 3) scAs.nd rfl (.inl rfl) (pe_call cP.G hr3 rfl cP.m cP.kp cP.b .nil pass0 (pa_cons (pv 0) (pa_cons (pv 1) (pa_cons (pv 2) pa_nil)))))
      (pss_cons (ps_set (i := 4) scAs.nd rfl (.inl rfl) (pe_call cR.G hr4 rfl cR.m cR.kp cR.b .nil pass0 (pa_cons (pv 0) pa_nil)))
      (pss_cons (ps_set (i := 5) scAs.nd rfl (.inl rfl) (pe_call cR.G hr4 rfl cR.m cR.kp cR.b .nil pass0 (pa_cons (pv 1) pa_nil)))
      (pss_cons (ps_if (PW.pt (pw_or (pt_not (pt_val (pe_call cE.G hr4 rfl cE.m cE.kp cE.b .nil pass0 (pa_cons (pe_call cT.G hr rfl cT.m cT.kp cT.b .nil pass0 (pa_cons (pv 4) (pa_cons (pv 5) pa_nil))) (pa_cons (pv 3) pa_nil)))))
          (pw_or1 (pt_not (pt_val (pe_call cL.G hr3 rfl cL.m cL.kp cL.b .nil pass0 (pa_cons (pe_call cW.G hr rfl cW.m cW.kp cW.b .nil pass0 (pa_cons (pe_ix ix_tup (pv 4) (pe_un un_neg pe_int) (fun _ _ => rfl)) (pa_cons (pv 5) pa_nil))) (pa_cons (pe_ix ix_list (pv 3) (pe_un un_neg pe_int) (fun _ _ => rfl)) pa_nil))))))))
        (pss_one ps_never) pss_nil)
      (pss_one (ps_ret (pe_and (pe_call cE.G hr4 rfl cE.m cE.kp cE.b .nil pass0 (pa_cons (pv 4) (pa_cons (pv 0) pa_nil))) (pe_one (pe_call cE.G hr4 rfl cE.m cE.kp cE.b .nil pass0 (pa_cons (pv 5) (pa_cons (pv 1) pa_nil)))))))))), ?_⟩
    obtain ⟨h', rfl⟩ : ∃ h', h = h' + 1 := ⟨h - 1, by omega⟩
    refine ⟨_, rfl, _, rfl, _, rfl, p, q, h' + 1, k, ww, U, R, a, A', n, d, m, e, rfl, hp, hq, gn, gm, hh, hk, hw, fun du S B H1 s1 n1 hdu => ?_⟩
    refine ⟨_, rfl, p, h' + 1, k, U, a, n, d, rfl, hp.same s1, gn, hh, by omega, fun fi S2 B2 H2 s2 n2 hfi => ?_⟩
    refine ⟨_, rfl, q, k, ww, R, A', m, e, rfl, (hq.same s1).same s2, gm, by omega, hw, fun se S3 B3 H3 s3 n3 hse => ?_⟩
    have hfi := hfi.same s3
    refine ⟨_, rfl, _, rfl, fi, se, h' + 1, k, ww, S2, S3, B2, B3, n, d, m, e, rfl, hfi, hse, fun i hi => (gn i hi).fr, fun i hi => (gm i hi).fr, k0, hk, hw, hh, fun r S4 B4 H4 s4 n4 hr4 => ?_⟩
    have hdu4 := ((hdu.same s2).same s3).same s4
    refine ⟨_, rfl, r, du, h' + 1, ww, S4, S, B4, B, _, _, rfl, hr4, hdu4, hh, hw, true, rfl, ?_⟩
    refine iteF ?_
    have hfi4 := hfi.same s4
    have hse4 := hse.same s4
    refine ⟨_, rfl, 1, rfl, fi, _, _, _, rfl, rfl, SqT.of hfi4.hp, refs_last h' S2, _, rfl, S2 h', se, k, ww, _, S3, B3, _, _, m, e, rfl, hfi4.r h' (by omega), hse4, (gn h' (by omega)).fr, fun i hi => (gm i hi).fr, k0, hk, hw, fun r5 S5 H5 s5 n5 h5 => ?_⟩
    have hdu5 := hdu4.same s5
    refine ⟨_, rfl, 1, rfl, du, _, _, _, rfl, rfl, SqL.of hdu5.hq, refs_last h' S, r5, S h', ww, S5, B h', _, _, rfl, h5, hdu5.r h' (by omega), hw, true, rfl, ?_⟩
    refine iteF ?_
    have sA := (((s1.trans s2).trans s3).trans s4).trans s5
    refine ⟨_, rfl, _, rfl, fi, p, h' + 1, k, S2, U, B2, a, n, d, rfl, hfi4.same s5, hp.same sA, hh, by omega, true, rfl, ?_⟩
    refine iteT ?_
    exact ⟨_, rfl, _, rfl, se, q, k, ww, S3, R, B3, A', m, e, rfl, hse4.same s5, hq.same sA, by omega, hw, kk H5 sA⟩
theorem scL : FnScope ["script", "feed", "wide", "sizes", "one", "two", "many", "other", "turn", "size", "count"] ["script"] (defScope sLaw) := ⟨rfl, rfl, rfl, by decide +kernel, rfl, by decide +kernel, by decide +kernel⟩
theorem ok_law {f C fFe fDr fSz fLs fA fT fU fLu fE fR : Addr} {fd dFe dDr dSz dLs dA dT dU dLu dE dR : FuncData} (F : Fun K "law" "law" sLaw f fd) (T : TxtL mg)
    (cFe : CalN P w K mg base "_law_feed" 1 ["script"] (spFeed K) fFe dFe) (cDr : CalN P w K mg base "_law_draw" 1 ["feed", "limit"] spDraw fDr dDr) (cSz : CalN P w K mg base "_law_sizes" 2 ["feed"] spSizes fSz dSz)
    (cLs : CalN P w K mg base "_law_lines" 5 ["feed", "many", "width", "wide"] spLines fLs dLs) (cA : CalN P w K mg base "_law_asked" 6 ["one", "two", "width"] spAsked fA dA) (cT : CalN P w K mg base "times" 5 ["one", "other"] (spTimes C) fT dT)
    (cU : CalN P w K mg base "unit" 3 ["size"] (spUnit C) fU dU) (cLu : CalN P w K mg base "_law_unit" 1 ["size"] spLUnit fLu dLu) (cE : CalN P w K mg base "_law_same_table" 4 ["actual", "due"] (spSameTab C) fE dE) (cR : CalN P w K mg base "_law_ratio_table" 4 ["lines"] (spRatT C) fR dR) :
    FnOk P w K mg base CX0 7 f fd ["script"] (spLaw K) := by
  refine F.ok scL (fun vs H Q E h => ?_) (fun cdv A outer s H vs Q E hr h => ?_)
  · obtain ⟨a, ns, rfl, _⟩ := h
    rfl
  · obtain ⟨a, ns, rfl, hS, hl, kk⟩ := h
    have hr1 : Room 1 _ := hr.mono (by decide)
    have hr2 : Room 2 _ := hr.mono (by decide)
    have hr3 : Room 3 _ := hr.mono (by decide)
    have hr4 : Room 4 _ := hr.mono (by decide)
    have hr5 : Room 5 _ := hr.mono (by decide)
    refine ⟨_, pss_cons (ps_set (i := 1) scL.nd rfl (.inl rfl) (pe_call cFe.G hr1 rfl cFe.m cFe.kp cFe.b .nil pass0 (pa_cons (pv 0) pa_nil)))
      (pss_cons (ps_set (i := 2) scL.nd rfl (.inl rfl) (pe_op op_mul pe_int (pe_callTy call_int1 (by rfl) T.int (by decide +kernel) (pa_cons (pe_cmpR op_eq (pe_call cDr.G hr1 rfl cDr.m cDr.kp cDr.b .nil pass0 (pa_cons (pv 1) (pa_cons pe_int pa_nil))) pe_int (nomark _)) pa_nil))))
      (pss_cons (ps_set (i := 3) scL.nd rfl (.inl rfl) (pe_call cSz.G hr2 rfl cSz.m cSz.kp cSz.b .nil pass0 (pa_cons (pv 1) pa_nil)))
      (pss_cons (ps_set (i := 4) scL.nd rfl (.inl rfl) (pe_call cLs.G hr5 rfl cLs.m cLs.kp cLs.b .nil pass0 (pa_cons (pv 1) (pa_cons (pe_ix ix_list (pv 3) pe_int (fun _ _ => rfl)) (pa_cons (pe_ix ix_list (pv 3) pe_int (fun _ _ => rfl)) (pa_cons (pv 2) pa_nil))))))
      (pss_cons (ps_set (i := 5) scL.nd rfl (.inl rfl) (pe_call cLs.G hr5 rfl cLs.m cLs.kp cLs.b .nil pass0 (pa_cons (pv 1) (pa_cons (pe_ix ix_list (pv 3) pe_int (fun _ _ => rfl)) (pa_cons (pe_ix ix_list (pv 3) pe_int (fun _ _ => rfl)) (pa_cons (pv 2) pa_nil))))))
      (pss_cons (ps_set (i := 6) scL.nd rfl (.inl rfl) (pe_op op_add pe_int (pe_call cDr.G hr1 rfl cDr.m cDr.kp cDr.b .nil pass0 (pa_cons (pv 1) (pa_cons pe_int pa_nil)))))
      (pss_cons (ps_set (i := 7) scL.nd rfl (.inl rfl) (pe_call cLs.G hr5 rfl cLs.m cLs.kp cLs.b .nil pass0 (pa_cons (pv 1) (pa_cons (pv 6) (pa_cons (pv 6) (pa_cons (pv 2) pa_nil))))))
      (pss_cons (ps_for PassesOwn.never rfl (pi_range1 rfl T.range (pa_cons pe_int pa_nil)) (pg_name (i := 8) scL.nd rfl (.inl rfl))
        (pss_one (ps_if (PW.pt (pw_or (pt_not (pt_val (pe_call cA.G hr rfl cA.m cA.kp cA.b .nil pass0 (pa_cons (pv 4) (pa_cons (pv 5) (pa_cons (pe_ix ix_list (pv 3) pe_int (fun _ _ => rfl)) pa_nil)))))) (pw_or1 (pt_not (pt_val (pe_call cA.G hr rfl cA.m cA.kp cA.b .nil pass0 (pa_cons (pv 7) (pa_cons (pv 7) (pa_cons (pv 6) pa_nil)))))))))
          (pss_one ps_never) pss_nil)))
      (pss_cons (ps_set (i := 9) scL.nd rfl (.inl rfl) (pe_call cDr.G hr1 rfl cDr.m cDr.kp cDr.b .nil pass0 (pa_cons (pv 1) (pa_cons pe_int pa_nil))))
      (C8.pss_cut (ps_if (pt_cmpR op_eq (pe_call cDr.G hr1 rfl cDr.m cDr.kp cDr.b .nil pass0 (pa_cons (pv 1) (pa_cons pe_int pa_nil))) pe_int (nomark _)) (pss_one (ps_set (i := 9) scL.nd rfl (.inl rfl) pe_int)) pss_nil)
      (pss_cons (ps_for PassesOwn.never rfl (pi_list (pe_lst (pa_cons (pv 9) (pa_cons (pe_ix ix_list (pv 3) pe_int (fun _ _ => rfl)) pa_nil)))) (pg_name (i := 10) scL.nd rfl (.inl rfl))
        (pss_one (ps_if (pt_not (pt_val (pe_call cE.G hr4 rfl cE.m cE.kp cE.b .nil pass0 (pa_cons (pe_call cU.G hr3 rfl cU.m cU.kp cU.b .nil pass0 (pa_cons (pv 10) pa_nil)) (pa_cons (pe_call cLu.G hr1 rfl cLu.m cLu.kp cLu.b .nil pass0 (pa_cons (pv 10) pa_nil)) pa_nil)))))
          (pss_one ps_never) pss_nil)))
      (pss_one (ps_ret (pe_call cE.G hr4 rfl cE.m cE.kp cE.b .nil pass0 (pa_cons (pe_call cT.G hr5 rfl cT.m cT.kp cT.b .nil pass0 (pa_cons (pe_call cR.G hr4 rfl cR.m cR.kp cR.b .nil pass0 (pa_cons (pv 4) pa_nil)) (pa_cons (pe_call cU.G hr3 rfl cU.m cU.kp cU.b .nil pass0 (pa_cons (pe_ix ix_list (pv 3) pe_int (fun _ _ => rfl)) pa_nil)) pa_nil))) (pa_cons (pv 4) pa_nil))))))))))))))), ?_⟩
    refine ⟨_, rfl, a, ns, rfl, hS, hl, fun fe cl H1 s1 nfe ncl f1 => ?_⟩
    refine ⟨_, rfl, fe, cl, 3, rfl, f1, by decide, by decide, fun x0 H2 x0a x0b f2 b2 => ?_⟩
    obtain ⟨b0, hb0, b0a, b0b⟩ : ∃ b0 : Int, V.int (if decide (V.int x0 = V.int 0) = true then 1 else 0) = V.int b0 ∧ 0 ≤ b0 ∧ b0 ≤ 1 := ⟨_, rfl, by split <;> omega, by split <;> omega⟩
    have w0 : 0 ≤ 4 * b0 := by omega
    have w4 : 4 * b0 ≤ 4 := by omega
    refine ⟨rfl, .inr ⟨_, rfl, 4, b0, rfl, hb0, .inl (by decide), ?_⟩⟩
    refine ⟨_, rfl, fe, cl, rfl, f2, fun Z x y z H3 f3 b3 nZ hZ x1 x2 y1 y2 z2 => ?_⟩
    obtain ⟨l2, hf2⟩ := f2.lst
    have Zf : Z ≠ fe := (ne_of_none hf2 nZ).symm
    refine ⟨_, rfl, _, rfl, Z, _, 0, _, rfl, rfl, SqL.of hZ, rfl, _, rfl, Z, _, 1, _, rfl, rfl, SqL.of hZ, rfl, _, rfl, fe, cl, x, y, 4 * b0, rfl, f3, w0, w4, by omega, by omega, fun p U a1 n1 d1 H4 f4 b4 np L1 U1 G1 => ?_⟩
    obtain ⟨l3, hf3⟩ := f3.lst
    have pf : p ≠ fe := (ne_of_none hf3 np).symm
    have hZ4 := b4 _ _ hZ Zf
    refine ⟨_, rfl, _, rfl, Z, _, 1, _, rfl, rfl, SqL.of hZ4, rfl, _, rfl, Z, _, 2, _, rfl, rfl, SqL.of hZ4, rfl, _, rfl, fe, cl, y, z, 4 * b0, rfl, f4, w0, w4, by omega, by omega, fun q R a2 n2 d2 H5 f5 b5 nq L2 R2 G2 => ?_⟩
    obtain ⟨l4, hf4⟩ := f4.lst
    have qf : q ≠ fe := (ne_of_none hf4 nq).symm
    have hZ5 := b5 _ _ hZ4 Zf
    have L1 := L1.but b5 hf4 pf U1
    refine ⟨_, rfl, fe, cl, 3, rfl, f5, by decide, by decide, fun x6 H6 x6a x6b f6 b6 => ?_⟩
    obtain ⟨c6, rfl⟩ : ∃ c : Nat, x6 = (c : Int) := ⟨x6.toNat, by omega⟩
    refine ⟨_, _, rfl, rfl, ?_⟩
    obtain ⟨l5, hf5⟩ := f5.lst
    have hZ6 := b6 _ _ hZ5 Zf
    have L1 := L1.but b6 hf5 pf U1
    have L2 := L2.but b6 hf5 qf R2
    refine ⟨_, rfl, _, rfl, _, rfl, _, rfl, fe, cl, 1 + c6, 1 + c6, 4 * b0, rfl, f6, w0, w4, by omega, by omega, fun o V3 a3 n3 d3 H7 f7 b7 no L3 R3 G3 => ?_⟩
    obtain ⟨l6, hf6⟩ := f6.lst
    have of' : o ≠ fe := (ne_of_none hf6 no).symm
    have hZ7 := b7 _ _ hZ6 Zf
    have L1 := L1.but b7 hf6 pf U1
    have L2 := L2.but b7 hf6 qf R2
    -- for turn in range(2)
    refine ⟨2, rfl, by decide, by decide, for_range (n := 2) (fun i σ H' => ∃ o8, σ = [some (.ref a), some (.ref fe), some (.int (4 * b0)), some (.ref Z), some (.ref p), some (.ref q), some (.int ((1 + c6 : Nat) : Int)), some (.ref o), o8, none, none] ∧ Same H7 H') ⟨_, rfl, Same.refl _⟩ ?_ ?_⟩
    · rintro i σ H8 hi ⟨o8, rfl, s8⟩
      have hZ8 := s8 _ _ hZ7
      refine ⟨_, rfl, _, rfl, _, rfl, Z, _, 2, _, rfl, rfl, SqL.of hZ8, rfl, p, q, x, y, z, U, R, a1, a2, n1, d1, n2, d2, rfl, L1.same s8, L2.same s8, G1, G2, by omega, by omega, by omega, by omega, by omega, fun H9 s9 => ⟨true, rfl, ?_⟩⟩
      refine iteF ?_
      refine ⟨_, rfl, _, rfl, _, rfl, o, o, 1 + c6, 1 + c6, 1 + c6, V3, V3, a3, a3, n3, d3, n3, d3, rfl, L3.same (s8.trans s9), L3.same (s8.trans s9), G3, G3, by omega, by omega, by omega, by omega, by omega, fun H10 s10 => ⟨true, rfl, ?_⟩⟩
      exact iteF ⟨_, rfl, (s8.trans s9).trans s10⟩
    rintro σ H8 ⟨o8, rfl, s8⟩
    have hZ8 := s8 _ _ hZ7
    have L1 := L1.same s8
    have f8 := f7.same s8
    refine ⟨_, rfl, fe, cl, 13, rfl, f8, by decide, by decide, fun x9 H9 x9a x9b f9 b9 => ?_⟩
    obtain ⟨l8, hf8⟩ := f8.lst
    have hZ9 := b9 _ _ hZ8 Zf
    have L1 := L1.but b9 hf8 pf U1
    refine ⟨fun σ' H' => ∃ c : Nat, σ' = [some (.ref a), some (.ref fe), some (.int (4 * b0)), some (.ref Z), some (.ref p), some (.ref q), some (.int ((1 + c6 : Nat) : Int)), some (.ref o), o8, some (.int (c : Nat)), none] ∧ c ≤ 60 ∧ H' Z = some (.lst [.int (x : Nat), .int (y : Nat), .int (z : Nat)]) ∧ LinesAt H' p x y U a1 n1 d1, ?_, ?_⟩
    · obtain ⟨c9, hc9, c9b⟩ : ∃ c : Nat, x9 = (c : Int) ∧ c ≤ 60 := ⟨x9.toNat, by omega, by omega⟩
      rw [hc9]
      refine ⟨_, rfl, fe, cl, 16, rfl, f9, by decide, by decide, fun x10 H10 x10a x10b f10 b10 => ⟨rfl, _, rfl, ?_⟩⟩
      obtain ⟨l9, hf9⟩ := f9.lst
      have hZ10 := b10 _ _ hZ9 Zf
      have L1 := L1.but b10 hf9 pf U1
      refine ite2 (fun _ => ?_) (fun _ => ⟨c9, rfl, c9b, hZ10, L1⟩)
      exact ⟨60, rfl, by omega, hZ10, L1⟩
    rintro σ H10 ⟨c, rfl, hc, hZ10, L1⟩
    refine ⟨_, rfl, _, rfl, Z, _, 1, _, rfl, rfl, SqL.of hZ10, rfl, (by show 2 ≤ sizeLine; decide), fun G nG => ?_⟩
    have sG : Same H10 (upd H10 G (.lst [.int (c : Nat), .int (y : Nat)])) := Same.upd nG
    have hG : upd H10 G (.lst [.int (c : Nat), .int (y : Nat)]) G = some (.lst [.int (c : Nat), .int (y : Nat)]) := upd_same
    generalize upd H10 G (.lst [.int (c : Nat), .int (y : Nat)]) = H11 at *
    have L1 := L1.same sG
    have hZ11 := sG _ _ hZ10
    refine ⟨G, rfl, ⟨_, SqL.of hG⟩, for_list (K := K) (a := G) (xs := [.int (c : Nat), .int (y : Nat)]) (fun i σ H' => ∃ o10, σ = [some (.ref a), some (.ref fe), some (.int (4 * b0)), some (.ref Z), some (.ref p), some (.ref q), some (.int ((1 + c6 : Nat) : Int)), some (.ref o), o8, some (.int (c : Nat)), o10] ∧ Same H11 H') ⟨_, rfl, Same.refl _⟩ (fun i σ H' _ ⟨_, _, s'⟩ => SqL.of (s' _ _ hG)) ?_ ?_⟩
    · rintro i v σ H12 hv ⟨o10, rfl, s12⟩
      obtain ⟨t, rfl, ht⟩ : ∃ t : Nat, v = .int (t : Nat) ∧ t ≤ 60 := by
        match i, hv with
        | 0, hv => exact ⟨c, (Option.some.inj hv).symm, hc⟩
        | 1, hv => exact ⟨y, (Option.some.inj hv).symm, y2⟩
      refine ⟨_, rfl, _, rfl, by omega, by omega, fun u S B H13 s13 n13 hu => ?_⟩
      refine ⟨_, rfl, t, rfl, by omega, fun l S2 B2 H14 s14 n14 hl => ?_⟩
      refine ⟨u, l, t, t, S, S2, B, B2, one01, fun _ _ => 1, rfl, hu.same s14, hl, by omega, by omega, true, rfl, ?_⟩
      exact iteF ⟨_, rfl, (s12.trans s13).trans s14⟩
    rintro σ H12 ⟨o10, rfl, s12⟩
    have L1 := L1.same s12
    have hZ12 := s12 _ _ hZ11
    refine ⟨_, rfl, p, x, y, U, a1, n1, d1, rfl, L1, G1, by omega, by omega, fun r S B H13 s13 n13 hr13 => ?_⟩
    refine ⟨_, rfl, Z, _, 1, _, rfl, rfl, SqL.of (s13 _ _ hZ12), rfl, _, rfl, by omega, by omega, fun u S2 B2 H14 s14 n14 hu => ?_⟩
    have fr01 : ∀ i, i < y → Frs y (one01 i) (fun _ => 1) := fun i _ j _ => by
      unfold one01
      split
      · exact Gd.one (n := 1) (by decide) |>.f
      · exact Gd.zero.f
    refine ⟨r, u, x, y, y, S, S2, B, B2, n1, d1, one01, fun _ _ => 1, rfl, hr13.same s14, hu, fun i hi => (G1 i hi).fr, fr01, by omega, by omega, by omega, by omega, fun t S3 B3 H15 s15 n15 ht => ?_⟩
    have ht2 : TabAt C H15 t x y S3 B3 n1 d1 := by
      refine ⟨ht.hp, fun i hi => ⟨(ht.r i hi).hp, fun j hj => ?_⟩⟩
      have q := (ht.r i hi).r j hj
      have g := G1 i hi j hj
      have e : cell (n1 i) (d1 i) one01 (fun _ _ => 1) y j = (n1 i j, d1 i j) := by
        have := RT.due_unit (n := n1 i) (d := d1 i) (j := j) (k := y) g.f.p g.c y (Nat.le_refl _)
        rw [if_neg (by omega)] at this
        exact this
      simp only [e] at q
      exact q
    exact ⟨_, rfl, t, p, x, y, S3, U, B3, a1, n1, d1, rfl, ht2, (((L1.same s13).same s14).same s15), by omega, by omega, kk _⟩
end
end RX

set_option Elab.async false
set_option maxRecDepth 100000
namespace RX
open PySem L2

theorem all_mk {l : PySem.W.OpenLaw} {w : World} {K : PySem.W.Frag} {h : Heap} {mg : Str → Option Value} {fa C TT fI fTi fRo fUn fAl fSo fFe fDr fGr fPa fSu fBy fIs fSa fSr fSt fRa fRt fNu fLi fLs fPr fSz fLu fAs fL : Addr} (X : K.In h) (G : h.Ns mainGlobals mg) (hfa : mg "law" = some (.ref fa))
    {odT odI odTi odRo odUn odAl odSo odFe odDr odGr odPa odSu odBy odIs odSa odSr odSt odRa odRt odNu odLi odLs odPr odSz odLu odAs odL anI anTi anRo anUn anAl anSo anFe anDr anGr anPa anSu anBy anIs anSa anSr anSt anRa anRt anNu anLi anLs anPr anSz anLu anAs anL : Option Addr} {slT slI slTi slRo slUn slAl slSo slFe slDr slGr slPa slSu slBy slIs slSa slSr slSt slRa slRt slNu slLi slLs slPr slSz slLu slAs slL : Array (Option Value)} {ocT ocI kVI dcI pmI cdI ctI ocTi kVTi dcTi pmTi cdTi ctTi ocRo kVRo dcRo pmRo cdRo ctRo ocUn kVUn dcUn pmUn cdUn ctUn ocAl kVAl dcAl pmAl cdAl ctAl ocSo kVSo dcSo pmSo cdSo ctSo ocFe kVFe dcFe pmFe cdFe ctFe ocDr kVDr dcDr pmDr cdDr ctDr ocGr kVGr dcGr pmGr cdGr ctGr ocPa kVPa dcPa pmPa cdPa ctPa ocSu kVSu dcSu pmSu cdSu ctSu ocBy kVBy dcBy pmBy cdBy ctBy ocIs kVIs dcIs pmIs cdIs ctIs ocSa kVSa dcSa pmSa cdSa ctSa ocSr kVSr dcSr pmSr cdSr ctSr ocSt kVSt dcSt pmSt cdSt ctSt ocRa kVRa dcRa pmRa cdRa ctRa ocRt kVRt dcRt pmRt cdRt ctRt ocNu kVNu dcNu pmNu cdNu ctNu ocLi kVLi dcLi pmLi cdLi ctLi ocLs kVLs dcLs pmLs cdLs ctLs ocPr kVPr dcPr pmPr cdPr ctPr ocSz kVSz dcSz pmSz cdSz ctSz ocLu kVLu dcLu pmLu cdLu ctLu ocAs kVAs dcAs pmAs cdAs ctAs ocL kVL dcL pmL cdL ctL : Value} {tkT : Tok} {nT0 : Nat}
    (aC : PySem.W.nsIn K mainGlobals "Ratio" = some (some (.ref C)))
    (aG : PySem.W.nsIn K mainGlobals "gcd" = some (some (.builtin "math.gcd")))
    (aI : PySem.W.findIn K (.ref C) "__init__" = some (some (.ref fI)))
    (iI : PySem.W.isFn K (.ref fI) = true)
    (lI : K.lookup fI = some ⟨ocI, odI, .func (PySem.W.fnOf "__init__" "Ratio.__init__" (defArgs sInit) (defBody sInit) (defScope sInit) (.ref TT) kVI dcI pmI anI cdI ctI), slI⟩)
    (cI : PySem.W.codeIn K cdI "Ratio.__init__" = true)
    (kI : PySem.W.keepIn K (.ref fI) = true)
    (lT : K.lookup TT = some ⟨ocT, odT, .seq #[.int 1 tkT] nT0, slT⟩)
    (aTi : PySem.W.nsIn K mainGlobals "times" = some (some (.ref fTi)))
    (lTi : K.lookup fTi = some ⟨ocTi, odTi, .func (PySem.W.fnOf "times" "times" (defArgs sTimes) (defBody sTimes) (defScope sTimes) .none kVTi dcTi pmTi anTi cdTi ctTi), slTi⟩)
    (cTi : PySem.W.codeIn K cdTi "times" = true)
    (kTi : PySem.W.keepIn K (.ref fTi) = true)
    (aRo : PySem.W.nsIn K mainGlobals "row_times" = some (some (.ref fRo)))
    (lRo : K.lookup fRo = some ⟨ocRo, odRo, .func (PySem.W.fnOf "row_times" "row_times" (defArgs sRowT) (defBody sRowT) (defScope sRowT) .none kVRo dcRo pmRo anRo cdRo ctRo), slRo⟩)
    (cRo : PySem.W.codeIn K cdRo "row_times" = true)
    (kRo : PySem.W.keepIn K (.ref fRo) = true)
    (aUn : PySem.W.nsIn K mainGlobals "unit" = some (some (.ref fUn)))
    (lUn : K.lookup fUn = some ⟨ocUn, odUn, .func (PySem.W.fnOf "unit" "unit" (defArgs sUnit) (defBody sUnit) (defScope sUnit) .none kVUn dcUn pmUn anUn cdUn ctUn), slUn⟩)
    (cUn : PySem.W.codeIn K cdUn "unit" = true)
    (kUn : PySem.W.keepIn K (.ref fUn) = true)
    (aAl : PySem.W.nsIn K mainGlobals "_along" = some (some (.ref fAl)))
    (lAl : K.lookup fAl = some ⟨ocAl, odAl, .func (PySem.W.fnOf "_along" "_along" (defArgs sAlong) (defBody sAlong) (defScope sAlong) .none kVAl dcAl pmAl anAl cdAl ctAl), slAl⟩)
    (cAl : PySem.W.codeIn K cdAl "_along" = true)
    (kAl : PySem.W.keepIn K (.ref fAl) = true)
    (aSo : PySem.W.nsIn K mainGlobals "sum_of_products" = some (some (.ref fSo)))
    (lSo : K.lookup fSo = some ⟨ocSo, odSo, .func (PySem.W.fnOf "sum_of_products" "sum_of_products" (defArgs sSop) (defBody sSop) (defScope sSop) .none kVSo dcSo pmSo anSo cdSo ctSo), slSo⟩)
    (cSo : PySem.W.codeIn K cdSo "sum_of_products" = true)
    (kSo : PySem.W.keepIn K (.ref fSo) = true)
    (aFe : PySem.W.nsIn K mainGlobals "_law_feed" = some (some (.ref fFe)))
    (lFe : K.lookup fFe = some ⟨ocFe, odFe, .func (PySem.W.fnOf "_law_feed" "_law_feed" (defArgs sFeed) (defBody sFeed) (defScope sFeed) .none kVFe dcFe pmFe anFe cdFe ctFe), slFe⟩)
    (cFe : PySem.W.codeIn K cdFe "_law_feed" = true)
    (kFe : PySem.W.keepIn K (.ref fFe) = true)
    (aDr : PySem.W.nsIn K mainGlobals "_law_draw" = some (some (.ref fDr)))
    (lDr : K.lookup fDr = some ⟨ocDr, odDr, .func (PySem.W.fnOf "_law_draw" "_law_draw" (defArgs sDraw) (defBody sDraw) (defScope sDraw) .none kVDr dcDr pmDr anDr cdDr ctDr), slDr⟩)
    (cDr : PySem.W.codeIn K cdDr "_law_draw" = true)
    (kDr : PySem.W.keepIn K (.ref fDr) = true)
    (aGr : PySem.W.nsIn K mainGlobals "_law_great" = some (some (.ref fGr)))
    (lGr : K.lookup fGr = some ⟨ocGr, odGr, .func (PySem.W.fnOf "_law_great" "_law_great" (defArgs sGreat) (defBody sGreat) (defScope sGreat) .none kVGr dcGr pmGr anGr cdGr ctGr), slGr⟩)
    (cGr : PySem.W.codeIn K cdGr "_law_great" = true)
    (kGr : PySem.W.keepIn K (.ref fGr) = true)
    (aPa : PySem.W.nsIn K mainGlobals "_law_pair" = some (some (.ref fPa)))
    (lPa : K.lookup fPa = some ⟨ocPa, odPa, .func (PySem.W.fnOf "_law_pair" "_law_pair" (defArgs sPair) (defBody sPair) (defScope sPair) .none kVPa dcPa pmPa anPa cdPa ctPa), slPa⟩)
    (cPa : PySem.W.codeIn K cdPa "_law_pair" = true)
    (kPa : PySem.W.keepIn K (.ref fPa) = true)
    (aSu : PySem.W.nsIn K mainGlobals "_law_sum" = some (some (.ref fSu)))
    (lSu : K.lookup fSu = some ⟨ocSu, odSu, .func (PySem.W.fnOf "_law_sum" "_law_sum" (defArgs sSum) (defBody sSum) (defScope sSum) .none kVSu dcSu pmSu anSu cdSu ctSu), slSu⟩)
    (cSu : PySem.W.codeIn K cdSu "_law_sum" = true)
    (kSu : PySem.W.keepIn K (.ref fSu) = true)
    (aBy : PySem.W.nsIn K mainGlobals "_law_by" = some (some (.ref fBy)))
    (lBy : K.lookup fBy = some ⟨ocBy, odBy, .func (PySem.W.fnOf "_law_by" "_law_by" (defArgs sBy) (defBody sBy) (defScope sBy) .none kVBy dcBy pmBy anBy cdBy ctBy), slBy⟩)
    (cBy : PySem.W.codeIn K cdBy "_law_by" = true)
    (kBy : PySem.W.keepIn K (.ref fBy) = true)
    (aIs : PySem.W.nsIn K mainGlobals "_law_is_integer" = some (some (.ref fIs)))
    (lIs : K.lookup fIs = some ⟨ocIs, odIs, .func (PySem.W.fnOf "_law_is_integer" "_law_is_integer" (defArgs sIsInt) (defBody sIsInt) (defScope sIsInt) .none kVIs dcIs pmIs anIs cdIs ctIs), slIs⟩)
    (cIs : PySem.W.codeIn K cdIs "_law_is_integer" = true)
    (kIs : PySem.W.keepIn K (.ref fIs) = true)
    (aSa : PySem.W.nsIn K mainGlobals "_law_same" = some (some (.ref fSa)))
    (lSa : K.lookup fSa = some ⟨ocSa, odSa, .func (PySem.W.fnOf "_law_same" "_law_same" (defArgs sSame) (defBody sSame) (defScope sSame) .none kVSa dcSa pmSa anSa cdSa ctSa), slSa⟩)
    (cSa : PySem.W.codeIn K cdSa "_law_same" = true)
    (kSa : PySem.W.keepIn K (.ref fSa) = true)
    (aSr : PySem.W.nsIn K mainGlobals "_law_same_row" = some (some (.ref fSr)))
    (lSr : K.lookup fSr = some ⟨ocSr, odSr, .func (PySem.W.fnOf "_law_same_row" "_law_same_row" (defArgs sSameRow) (defBody sSameRow) (defScope sSameRow) .none kVSr dcSr pmSr anSr cdSr ctSr), slSr⟩)
    (cSr : PySem.W.codeIn K cdSr "_law_same_row" = true)
    (kSr : PySem.W.keepIn K (.ref fSr) = true)
    (aSt : PySem.W.nsIn K mainGlobals "_law_same_table" = some (some (.ref fSt)))
    (lSt : K.lookup fSt = some ⟨ocSt, odSt, .func (PySem.W.fnOf "_law_same_table" "_law_same_table" (defArgs sSameTab) (defBody sSameTab) (defScope sSameTab) .none kVSt dcSt pmSt anSt cdSt ctSt), slSt⟩)
    (cSt : PySem.W.codeIn K cdSt "_law_same_table" = true)
    (kSt : PySem.W.keepIn K (.ref fSt) = true)
    (aRa : PySem.W.nsIn K mainGlobals "_law_ratios" = some (some (.ref fRa)))
    (lRa : K.lookup fRa = some ⟨ocRa, odRa, .func (PySem.W.fnOf "_law_ratios" "_law_ratios" (defArgs sRats) (defBody sRats) (defScope sRats) .none kVRa dcRa pmRa anRa cdRa ctRa), slRa⟩)
    (cRa : PySem.W.codeIn K cdRa "_law_ratios" = true)
    (kRa : PySem.W.keepIn K (.ref fRa) = true)
    (aRt : PySem.W.nsIn K mainGlobals "_law_ratio_table" = some (some (.ref fRt)))
    (lRt : K.lookup fRt = some ⟨ocRt, odRt, .func (PySem.W.fnOf "_law_ratio_table" "_law_ratio_table" (defArgs sRatT) (defBody sRatT) (defScope sRatT) .none kVRt dcRt pmRt anRt cdRt ctRt), slRt⟩)
    (cRt : PySem.W.codeIn K cdRt "_law_ratio_table" = true)
    (kRt : PySem.W.keepIn K (.ref fRt) = true)
    (aNu : PySem.W.nsIn K mainGlobals "_law_number" = some (some (.ref fNu)))
    (lNu : K.lookup fNu = some ⟨ocNu, odNu, .func (PySem.W.fnOf "_law_number" "_law_number" (defArgs sNumber) (defBody sNumber) (defScope sNumber) .none kVNu dcNu pmNu anNu cdNu ctNu), slNu⟩)
    (cNu : PySem.W.codeIn K cdNu "_law_number" = true)
    (kNu : PySem.W.keepIn K (.ref fNu) = true)
    (aLi : PySem.W.nsIn K mainGlobals "_law_line" = some (some (.ref fLi)))
    (lLi : K.lookup fLi = some ⟨ocLi, odLi, .func (PySem.W.fnOf "_law_line" "_law_line" (defArgs sLine) (defBody sLine) (defScope sLine) .none kVLi dcLi pmLi anLi cdLi ctLi), slLi⟩)
    (cLi : PySem.W.codeIn K cdLi "_law_line" = true)
    (kLi : PySem.W.keepIn K (.ref fLi) = true)
    (aLs : PySem.W.nsIn K mainGlobals "_law_lines" = some (some (.ref fLs)))
    (lLs : K.lookup fLs = some ⟨ocLs, odLs, .func (PySem.W.fnOf "_law_lines" "_law_lines" (defArgs sLines) (defBody sLines) (defScope sLines) .none kVLs dcLs pmLs anLs cdLs ctLs), slLs⟩)
    (cLs : PySem.W.codeIn K cdLs "_law_lines" = true)
    (kLs : PySem.W.keepIn K (.ref fLs) = true)
    (aPr : PySem.W.nsIn K mainGlobals "_law_product" = some (some (.ref fPr)))
    (lPr : K.lookup fPr = some ⟨ocPr, odPr, .func (PySem.W.fnOf "_law_product" "_law_product" (defArgs sProd) (defBody sProd) (defScope sProd) .none kVPr dcPr pmPr anPr cdPr ctPr), slPr⟩)
    (cPr : PySem.W.codeIn K cdPr "_law_product" = true)
    (kPr : PySem.W.keepIn K (.ref fPr) = true)
    (aSz : PySem.W.nsIn K mainGlobals "_law_sizes" = some (some (.ref fSz)))
    (lSz : K.lookup fSz = some ⟨ocSz, odSz, .func (PySem.W.fnOf "_law_sizes" "_law_sizes" (defArgs sSizes) (defBody sSizes) (defScope sSizes) .none kVSz dcSz pmSz anSz cdSz ctSz), slSz⟩)
    (cSz : PySem.W.codeIn K cdSz "_law_sizes" = true)
    (kSz : PySem.W.keepIn K (.ref fSz) = true)
    (aLu : PySem.W.nsIn K mainGlobals "_law_unit" = some (some (.ref fLu)))
    (lLu : K.lookup fLu = some ⟨ocLu, odLu, .func (PySem.W.fnOf "_law_unit" "_law_unit" (defArgs sLUnit) (defBody sLUnit) (defScope sLUnit) .none kVLu dcLu pmLu anLu cdLu ctLu), slLu⟩)
    (cLu : PySem.W.codeIn K cdLu "_law_unit" = true)
    (kLu : PySem.W.keepIn K (.ref fLu) = true)
    (aAs : PySem.W.nsIn K mainGlobals "_law_asked" = some (some (.ref fAs)))
    (lAs : K.lookup fAs = some ⟨ocAs, odAs, .func (PySem.W.fnOf "_law_asked" "_law_asked" (defArgs sAsked) (defBody sAsked) (defScope sAsked) .none kVAs dcAs pmAs anAs cdAs ctAs), slAs⟩)
    (cAs : PySem.W.codeIn K cdAs "_law_asked" = true)
    (kAs : PySem.W.keepIn K (.ref fAs) = true)
    (aL : PySem.W.nsIn K mainGlobals "law" = some (some (.ref fL)))
    (lL : K.lookup fL = some ⟨ocL, odL, .func (PySem.W.fnOf "law" "law" (defArgs sLaw) (defBody sLaw) (defScope sLaw) .none kVL dcL pmL anL cdL ctL), slL⟩)
    (cL : PySem.W.codeIn K cdL "law" = true)
    (kL : PySem.W.keepIn K (.ref fL) = true)
    (pg : PySem.W.plainGet K C Str.empty = true)
    (hd : PySem.W.hasDictIn K C = true)
    (po : PySem.W.plainOver K C = true)
    (sa : PySem.W.findIn K (.ref C) "__setattr__" = some (some (.builtin "object.__setattr__")))
    (mk : PySem.W.makesIn K C = true)
    (kc : PySem.W.keepIn K (.ref C) = true)
    (nT : PySem.W.findIn K (.ref C) "top" = some none)
    (nB : PySem.W.findIn K (.ref C) "bottom" = some none)
    (xa : PySem.W.findIn K (.ref C) "__class__" = some (some (.builtin "object.__class__")))
    (xn : PySem.W.specialIn K (.builtin "object.__class__") "__get__" = some (some (.builtin "getset_descriptor.__get__")))
    (xt : PySem.W.takesIn K (.builtin "object.__class__") = some true)
    (xm : PySem.W.mroIn K C (.type "object") = some true)
    (aLc : PySem.W.nsIn K mainGlobals "lcm" = some (some (.builtin "math.lcm")))
    (z_abs : PySem.W.nsIn K mainGlobals "abs" = some none)
    (z_len : PySem.W.nsIn K mainGlobals "len" = some none)
    (z_int : PySem.W.nsIn K mainGlobals "int" = some none)
    (z_max : PySem.W.nsIn K mainGlobals "max" = some none)
    (z_range : PySem.W.nsIn K mainGlobals "range" = some none)
    (z_isinstance : PySem.W.nsIn K mainGlobals "isinstance" = some none)
    (z_bool : PySem.W.nsIn K mainGlobals "bool" = some none)
    (z_zip : PySem.W.nsIn K mainGlobals "zip" = some none)
    (z_tuple : PySem.W.nsIn K mainGlobals "tuple" = some none)
    (z_list : PySem.W.nsIn K mainGlobals "list" = some none)
    : ∃ fd : FuncData, (∀ (s : Shared) (v : Value), BindsTo s fd ⟨[v], []⟩ [("script", v)]) ∧ ∀ base : Heap, K.In base → base.Ns mainGlobals mg → FnOk l.prog w K mg base CX0 7 fa fd ["script"] (spLaw K) := by
  have e := hfa.symm.trans (PySem.W.mg_of X G aL)
  cases e
  have T : TxtL mg := ⟨PySem.W.mg_none_of X G z_abs, PySem.W.mg_none_of X G z_len, PySem.W.mg_none_of X G z_int, PySem.W.mg_none_of X G z_max, PySem.W.mg_none_of X G z_range, PySem.W.mg_none_of X G z_isinstance, PySem.W.mg_none_of X G z_bool⟩
  have TR : TxtR K mg C := ⟨⟨pg, hd, po, sa⟩, nT, nB, PySem.W.mg_of X G aC, PySem.W.mg_of X G aG⟩
  have xe : PySem.W.kitOne K (.ref C) (.ref C) = some true := by
    unfold PySem.W.kitOne
    rw [if_pos (beq_self_eq_true _)]
  have IC : C8.InsC K C := ⟨⟨pg, hd, po, sa⟩, xa, xn, xt, xm, xe⟩
  obtain ⟨fdI, FI⟩ : ∃ fd, FunD K "__init__" "Ratio.__init__" (defArgs sInit) (defBody sInit) (defScope sInit) [.int 1] [] fI fd := ⟨_, ⟨ocI, odI, .ref TT, kVI, dcI, pmI, anI, cdI, ctI, slI, rfl, lI, cI, .inr ⟨(fun z => nomatch z), TT, _, [.int 1 tkT], nT0, rfl, lT, rfl, .cons ⟨tkT, rfl⟩ .nil⟩, .inl rfl⟩, kI⟩
  have bI : Binds K fdI ["self", "top", "bottom"] [] := by
    obtain ⟨ds, v, b⟩ := FI.binds1 (ps := ["self", "top", "bottom"]) 3 1 (fun z => nomatch z) rfl fun T kV doc pm an cdv ct us its hu hi => match us, its, hu, hi with | [_, _, _], [_], _, _ => ⟨_, rfl, rfl⟩
    cases v
    exact b
  have bI1 : ∃ ds, Vals [V.int 1] ds ∧ Binds K fdI ["self", "top", "bottom"] ds := FI.binds1 (ps := ["self", "top", "bottom"]) 2 0 (fun z => nomatch z) rfl fun T kV doc pm an cdv ct us its hu hi => match us, its, hu, hi with | [_, _], [_], _, _ => ⟨_, rfl, rfl⟩
  have bIk : ∃ its : List Value, KBn K fdI ["self", "top", "bottom"] 2 ["bottom"] (fun us ws => us ++ ws) (fun vs zs => vs ++ zs) := FI.kbindsD (ps := ["self", "top", "bottom"]) 2 ["bottom"] (fun us _ ws => us ++ ws) (fun z => nomatch z) (fun r1 _ r3 => r1.append r3) fun T kV doc pm an cdv ct us its ws hu hi hw => match us, its, ws, hu, hi, hw with | [_, _], [_], [_], _, _, _ => ⟨_, rfl, rfl⟩
  have FTi := fun_mk (st := sTimes) lTi cTi kTi
  have bTi := FTi.binds (ps := ["one", "other"]) fun _ _ _ _ _ _ us hl => match us, hl with | [_, _], _ => rfl
  have mTi := PySem.W.mg_of X G aTi
  have FRo := fun_mk (st := sRowT) lRo cRo kRo
  have bRo := FRo.binds (ps := ["row", "table"]) fun _ _ _ _ _ _ us hl => match us, hl with | [_, _], _ => rfl
  have mRo := PySem.W.mg_of X G aRo
  have FUn := fun_mk (st := sUnit) lUn cUn kUn
  have bUn := FUn.binds (ps := ["size"]) fun _ _ _ _ _ _ us hl => match us, hl with | [_], _ => rfl
  have mUn := PySem.W.mg_of X G aUn
  have FAl := fun_mk (st := sAlong) lAl cAl kAl
  have bAl := FAl.binds (ps := ["row", "columns"]) fun _ _ _ _ _ _ us hl => match us, hl with | [_, _], _ => rfl
  have mAl := PySem.W.mg_of X G aAl
  have FSo := fun_mk (st := sSop) lSo cSo kSo
  have bSo := FSo.binds (ps := ["row", "column"]) fun _ _ _ _ _ _ us hl => match us, hl with | [_, _], _ => rfl
  have mSo := PySem.W.mg_of X G aSo
  have FFe := fun_mk (st := sFeed) lFe cFe kFe
  have bFe := FFe.binds (ps := ["script"]) fun _ _ _ _ _ _ us hl => match us, hl with | [_], _ => rfl
  have mFe := PySem.W.mg_of X G aFe
  have FDr := fun_mk (st := sDraw) lDr cDr kDr
  have bDr := FDr.binds (ps := ["feed", "limit"]) fun _ _ _ _ _ _ us hl => match us, hl with | [_, _], _ => rfl
  have mDr := PySem.W.mg_of X G aDr
  have FGr := fun_mk (st := sGreat) lGr cGr kGr
  have bGr := FGr.binds (ps := ["feed", "parts"]) fun _ _ _ _ _ _ us hl => match us, hl with | [_, _], _ => rfl
  have mGr := PySem.W.mg_of X G aGr
  have FPa := fun_mk (st := sPair) lPa cPa kPa
  have bPa := FPa.binds (ps := ["above", "below"]) fun _ _ _ _ _ _ us hl => match us, hl with | [_, _], _ => rfl
  have mPa := PySem.W.mg_of X G aPa
  have FSu := fun_mk (st := sSum) lSu cSu kSu
  have bSu := FSu.binds (ps := ["one", "two"]) fun _ _ _ _ _ _ us hl => match us, hl with | [_, _], _ => rfl
  have mSu := PySem.W.mg_of X G aSu
  have FBy := fun_mk (st := sBy) lBy cBy kBy
  have bBy := FBy.binds (ps := ["one", "two"]) fun _ _ _ _ _ _ us hl => match us, hl with | [_, _], _ => rfl
  have mBy := PySem.W.mg_of X G aBy
  have FIs := fun_mk (st := sIsInt) lIs cIs kIs
  have bIs := FIs.binds (ps := ["actual"]) fun _ _ _ _ _ _ us hl => match us, hl with | [_], _ => rfl
  have mIs := PySem.W.mg_of X G aIs
  have FSa := fun_mk (st := sSame) lSa cSa kSa
  have bSa := FSa.binds (ps := ["actual", "due"]) fun _ _ _ _ _ _ us hl => match us, hl with | [_, _], _ => rfl
  have mSa := PySem.W.mg_of X G aSa
  have FSr := fun_mk (st := sSameRow) lSr cSr kSr
  have bSr := FSr.binds (ps := ["actual", "due"]) fun _ _ _ _ _ _ us hl => match us, hl with | [_, _], _ => rfl
  have mSr := PySem.W.mg_of X G aSr
  have FSt := fun_mk (st := sSameTab) lSt cSt kSt
  have bSt := FSt.binds (ps := ["actual", "due"]) fun _ _ _ _ _ _ us hl => match us, hl with | [_, _], _ => rfl
  have mSt := PySem.W.mg_of X G aSt
  have FRa := fun_mk (st := sRats) lRa cRa kRa
  have bRa := FRa.binds (ps := ["line"]) fun _ _ _ _ _ _ us hl => match us, hl with | [_], _ => rfl
  have mRa := PySem.W.mg_of X G aRa
  have FRt := fun_mk (st := sRatT) lRt cRt kRt
  have bRt := FRt.binds (ps := ["lines"]) fun _ _ _ _ _ _ us hl => match us, hl with | [_], _ => rfl
  have mRt := PySem.W.mg_of X G aRt
  have FNu := fun_mk (st := sNumber) lNu cNu kNu
  have bNu := FNu.binds (ps := ["feed", "wide"]) fun _ _ _ _ _ _ us hl => match us, hl with | [_, _], _ => rfl
  have mNu := PySem.W.mg_of X G aNu
  have FLi := fun_mk (st := sLine) lLi cLi kLi
  have bLi := FLi.binds (ps := ["feed", "width", "wide"]) fun _ _ _ _ _ _ us hl => match us, hl with | [_, _, _], _ => rfl
  have mLi := PySem.W.mg_of X G aLi
  have FLs := fun_mk (st := sLines) lLs cLs kLs
  have bLs := FLs.binds (ps := ["feed", "many", "width", "wide"]) fun _ _ _ _ _ _ us hl => match us, hl with | [_, _, _, _], _ => rfl
  have mLs := PySem.W.mg_of X G aLs
  have FPr := fun_mk (st := sProd) lPr cPr kPr
  have bPr := FPr.binds (ps := ["one", "two", "width"]) fun _ _ _ _ _ _ us hl => match us, hl with | [_, _, _], _ => rfl
  have mPr := PySem.W.mg_of X G aPr
  have FSz := fun_mk (st := sSizes) lSz cSz kSz
  have bSz := FSz.binds (ps := ["feed"]) fun _ _ _ _ _ _ us hl => match us, hl with | [_], _ => rfl
  have mSz := PySem.W.mg_of X G aSz
  have FLu := fun_mk (st := sLUnit) lLu cLu kLu
  have bLu := FLu.binds (ps := ["size"]) fun _ _ _ _ _ _ us hl => match us, hl with | [_], _ => rfl
  have mLu := PySem.W.mg_of X G aLu
  have FAs := fun_mk (st := sAsked) lAs cAs kAs
  have bAs := FAs.binds (ps := ["one", "two", "width"]) fun _ _ _ _ _ _ us hl => match us, hl with | [_, _, _], _ => rfl
  have mAs := PySem.W.mg_of X G aAs
  refine ⟨PySem.W.fnOf "law" "law" (defArgs sLaw) (defBody sLaw) (defScope sLaw) .none kVL dcL pmL anL cdL ctL, fun s v => .of_eq rfl, fun base _ _ => ?_⟩
  have M : Mk K C fI := ⟨mk, aI, iI, kc⟩
  have GI := ok_init (P := l.prog) (w := w) (base := base) FI TR
  have TP : TxtP mg := ⟨PySem.W.mg_none_of X G z_zip, PySem.W.mg_of X G aLc, PySem.W.mg_none_of X G z_tuple, PySem.W.mg_none_of X G z_list, PySem.W.mg_none_of X G z_range⟩
  have gFe : CalN l.prog w K mg base "_law_feed" 1 ["script"] (spFeed K) fFe _ := ⟨ok_feed FFe T, mFe, kFe, bFe⟩
  have gDr : CalN l.prog w K mg base "_law_draw" 1 ["feed", "limit"] spDraw fDr _ := ⟨ok_draw FDr T, mDr, kDr, bDr⟩
  have gGr : CalN l.prog w K mg base "_law_great" 2 ["feed", "parts"] spGreat fGr _ := ⟨ok_great FGr T gDr.G mDr kDr bDr, mGr, kGr, bGr⟩
  have gPa : CalN l.prog w K mg base "_law_pair" 1 ["above", "below"] spPair fPa _ := ⟨ok_pair FPa T, mPa, kPa, bPa⟩
  have gSu : CalN l.prog w K mg base "_law_sum" 2 ["one", "two"] spSum fSu _ := ⟨ok_sum FSu gPa.G mPa kPa bPa, mSu, kSu, bSu⟩
  have gBy : CalN l.prog w K mg base "_law_by" 2 ["one", "two"] spBy fBy _ := ⟨ok_by FBy gPa.G mPa kPa bPa, mBy, kBy, bBy⟩
  have gIs : CalN l.prog w K mg base "_law_is_integer" 1 ["actual"] spIsInt fIs _ := ⟨ok_isInt FIs T, mIs, kIs, bIs⟩
  have gSa : CalN l.prog w K mg base "_law_same" 2 ["actual", "due"] (spSame C) fSa _ := ⟨ok_same FSa T TR IC gIs.G mIs kIs bIs, mSa, kSa, bSa⟩
  have gSr : CalN l.prog w K mg base "_law_same_row" 3 ["actual", "due"] (spSameRow C) fSr _ := ⟨ok_sameRow FSr T TP gSa, mSr, kSr, bSr⟩
  have gSt : CalN l.prog w K mg base "_law_same_table" 4 ["actual", "due"] (spSameTab C) fSt _ := ⟨ok_sameTab FSt T TP gSr, mSt, kSt, bSt⟩
  have gRa : CalN l.prog w K mg base "_law_ratios" 3 ["line"] (spRats C) fRa _ := ⟨ok_rats FRa TP TR M GI bI, mRa, kRa, bRa⟩
  have gRt : CalN l.prog w K mg base "_law_ratio_table" 4 ["lines"] (spRatT C) fRt _ := ⟨ok_ratT FRt TP gRa, mRt, kRt, bRt⟩
  have gNu : CalN l.prog w K mg base "_law_number" 3 ["feed", "wide"] spNumber fNu _ := ⟨ok_number FNu T gDr gGr gPa, mNu, kNu, bNu⟩
  have gLi : CalN l.prog w K mg base "_law_line" 4 ["feed", "width", "wide"] spLine fLi _ := ⟨ok_line FLi T gNu, mLi, kLi, bLi⟩
  have gLs : CalN l.prog w K mg base "_law_lines" 5 ["feed", "many", "width", "wide"] spLines fLs _ := ⟨ok_lines FLs T gLi, mLs, kLs, bLs⟩
  have gPr : CalN l.prog w K mg base "_law_product" 3 ["one", "two", "width"] spProd fPr _ := ⟨ok_prod FPr T gSu gBy, mPr, kPr, bPr⟩
  have gSz : CalN l.prog w K mg base "_law_sizes" 2 ["feed"] spSizes fSz _ := ⟨ok_sizes FSz gDr, mSz, kSz, bSz⟩
  have gLu : CalN l.prog w K mg base "_law_unit" 1 ["size"] spLUnit fLu _ := ⟨ok_lunit FLu T, mLu, kLu, bLu⟩
  have gSo : CalN l.prog w K mg base "sum_of_products" 3 ["row", "column"] (spSop C) fSo _ := ⟨ok_sop FSo TP TR M GI bI, mSo, kSo, bSo⟩
  have gAl : CalN l.prog w K mg base "_along" 4 ["row", "columns"] (spAlong C) fAl _ := ⟨ok_along FAl TP gSo, mAl, kAl, bAl⟩
  have gTi : CalN l.prog w K mg base "times" 5 ["one", "other"] (spTimes C) fTi _ := ⟨ok_times FTi TP gAl, mTi, kTi, bTi⟩
  have gRo : CalN l.prog w K mg base "row_times" 5 ["row", "table"] (spRowT C) fRo _ := ⟨ok_rowT FRo TP gAl, mRo, kRo, bRo⟩
  have gUn : CalN l.prog w K mg base "unit" 3 ["size"] (spUnit C) fUn _ := ⟨ok_unit FUn TP TR M GI bI1, mUn, kUn, bUn⟩
  have gAs : CalN l.prog w K mg base "_law_asked" 6 ["one", "two", "width"] spAsked fAs _ := ⟨ok_asked FAs T gPr gRt gTi gSt gRo gSr, mAs, kAs, bAs⟩
  exact ok_law (fun_mk (st := sLaw) lL cL kL) T gFe gDr gSz gLs gAs gTi gUn gLu gSt gRt
theorem walk {l : PySem.W.OpenLaw} {q : Program} {loose : List Str} {XP : (Str → Option Value) → Heap → Prop} {YP : World → Heap → Prop} {d : DefRec} {K : Params → PySem.W.Frag} (hn : l.most = some 63) (hdf : d.params.defaults = [])
    (hY : ∀ (w : World) (h : Heap), YP w h → (K w.params).In h)
    (F : ∀ (w : World) (mg : Str → Option Value) (fa : Addr) (h : Heap), (K w.params).In h → h.Ns mainGlobals mg → mg d.name = some (.ref fa) →
      ∃ fd : FuncData, (∀ (s : Shared) (u : Value), BindsTo s fd ⟨[u], []⟩ [("script", u)]) ∧ ∀ base : Heap, (K w.params).In base → base.Ns mainGlobals mg → FnOk l.prog w (K w.params) mg base CX0 7 fa fd ["script"] (spLaw (K w.params))) :
    PySem.W.WalkO q loose XP YP l.row.toRowW d [] (fun f vs => PySem.call f vs) :=
  L2.walk_of (n := 63) (k := 7) (x := "script") (CX := fun _ => CX0) (sp := fun w => spLaw (K w.params)) hn (by decide) hdf ⟨rfl, by decide, by decide⟩ hY F (fun _ _ a ns hl _ hS => ⟨a, ns, rfl, hS, hl, fun _ => rfl⟩) fun _ _ _ _ _ z => z
end RX

set_option Elab.async false

open PySem PySem.W PyProof.Rows in
set_option maxRecDepth 100000 in
set_option maxHeartbeats 0 in
theorem PySem.Challenge.cw_wordworth_k04_table_products_holds : PySem.Challenge.rw_wordworth_k04_table_products.Holds := by
  w_on; o_law; k_head; (case hw => w_witness2)
  k_fill
  refine RX.walk (l := PySem.Challenge.rw_wordworth_k04_table_products) rfl rfl (fun w h Y => PySem.W.kIn_of Y) ?F
  case F =>
    intro w mg fa h KX G hmg
    refine' RX.all_mk KX G hmg ?aC ?aG ?aI ?iI ?lI ?cI ?kI ?lT ?aTi ?lTi ?cTi ?kTi ?aRo ?lRo ?cRo ?kRo ?aUn ?lUn ?cUn ?kUn ?aAl ?lAl ?cAl ?kAl ?aSo ?lSo ?cSo ?kSo ?aFe ?lFe ?cFe ?kFe ?aDr ?lDr ?cDr ?kDr ?aGr ?lGr ?cGr ?kGr ?aPa ?lPa ?cPa ?kPa ?aSu ?lSu ?cSu ?kSu ?aBy ?lBy ?cBy ?kBy ?aIs ?lIs ?cIs ?kIs ?aSa ?lSa ?cSa ?kSa ?aSr ?lSr ?cSr ?kSr ?aSt ?lSt ?cSt ?kSt ?aRa ?lRa ?cRa ?kRa ?aRt ?lRt ?cRt ?kRt ?aNu ?lNu ?cNu ?kNu ?aLi ?lLi ?cLi ?kLi ?aLs ?lLs ?cLs ?kLs ?aPr ?lPr ?cPr ?kPr ?aSz ?lSz ?cSz ?kSz ?aLu ?lLu ?cLu ?kLu ?aAs ?lAs ?cAs ?kAs ?aL ?lL ?cL ?kL ?pg ?hd ?po ?sa ?mk ?kc ?nT ?nB ?xa ?xn ?xt ?xm ?aLc ?z_abs ?z_len ?z_int ?z_max ?z_range ?z_isinstance ?z_bool ?z_zip ?z_tuple ?z_list
    (case aC => k_is)
    (case aG => k_is)
    (case aI => k_is)
    (case iI => k_is)
    (case lI => k_is)
    (case cI => k_is)
    (case kI => k_is)
    (case lT => k_is)
    (case aTi => k_is)
    (case lTi => k_is)
    (case cTi => k_is)
    (case kTi => k_is)
    (case aRo => k_is)
    (case lRo => k_is)
    (case cRo => k_is)
    (case kRo => k_is)
    (case aUn => k_is)
    (case lUn => k_is)
    (case cUn => k_is)
    (case kUn => k_is)
    (case aAl => k_is)
    (case lAl => k_is)
    (case cAl => k_is)
    (case kAl => k_is)
    (case aSo => k_is)
    (case lSo => k_is)
    (case cSo => k_is)
    (case kSo => k_is)
    (case aFe => k_is)
    (case lFe => k_is)
    (case cFe => k_is)
    (case kFe => k_is)
    (case aDr => k_is)
    (case lDr => k_is)
    (case cDr => k_is)
    (case kDr => k_is)
    (case aGr => k_is)
    (case lGr => k_is)
    (case cGr => k_is)
    (case kGr => k_is)
    (case aPa => k_is)
    (case lPa => k_is)
    (case cPa => k_is)
    (case kPa => k_is)
    (case aSu => k_is)
    (case lSu => k_is)
    (case cSu => k_is)
    (case kSu => k_is)
    (case aBy => k_is)
    (case lBy => k_is)
    (case cBy => k_is)
    (case kBy => k_is)
    (case aIs => k_is)
    (case lIs => k_is)
    (case cIs => k_is)
    (case kIs => k_is)
    (case aSa => k_is)
    (case lSa => k_is)
    (case cSa => k_is)
    (case kSa => k_is)
    (case aSr => k_is)
    (case lSr => k_is)
    (case cSr => k_is)
    (case kSr => k_is)
    (case aSt => k_is)
    (case lSt => k_is)
    (case cSt => k_is)
    (case kSt => k_is)
    (case aRa => k_is)
    (case lRa => k_is)
    (case cRa => k_is)
    (case kRa => k_is)
    (case aRt => k_is)
    (case lRt => k_is)
    (case cRt => k_is)
    (case kRt => k_is)
    (case aNu => k_is)
    (case lNu => k_is)
    (case cNu => k_is)
    (case kNu => k_is)
    (case aLi => k_is)
    (case lLi => k_is)
    (case cLi => k_is)
    (case kLi => k_is)
    (case aLs => k_is)
    (case lLs => k_is)
    (case cLs => k_is)
    (case kLs => k_is)
    (case aPr => k_is)
    (case lPr => k_is)
    (case cPr => k_is)
    (case kPr => k_is)
    (case aSz => k_is)
    (case lSz => k_is)
    (case cSz => k_is)
    (case kSz => k_is)
    (case aLu => k_is)
    (case lLu => k_is)
    (case cLu => k_is)
    (case kLu => k_is)
    (case aAs => k_is)
    (case lAs => k_is)
    (case cAs => k_is)
    (case kAs => k_is)
    (case aL => k_is)
    (case lL => k_is)
    (case cL => k_is)
    (case kL => k_is)
    (case pg => k_is)
    (case hd => k_is)
    (case po => k_is)
    (case sa => k_is)
    (case mk => k_is)
    (case kc => k_is)
    (case nT => k_is)
    (case nB => k_is)
    (case xa => k_is)
    (case xn => k_is)
    (case xt => k_is)
    (case xm => k_is)
    (case aLc => k_is)
    (case z_abs => k_is)
    (case z_len => k_is)
    (case z_int => k_is)
    (case z_max => k_is)
    (case z_range => k_is)
    (case z_isinstance => k_is)
    (case z_bool => k_is)
    (case z_zip => k_is)
    (case z_tuple => k_is)
    (case z_list => k_is)

