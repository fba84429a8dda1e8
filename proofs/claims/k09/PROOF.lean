import PyProof.Rows.All
import Wide.All
import OpenK.AllK
import Wide.FinOn
import HandS.Call
import HandS.List
import HandS.Wide
import KE.KOpsOwn
import HandS.StrMore
import HandS.Style
import HandS.Text
import KE.KRevSl
import HandS.ForMost
import HandS.Gcd
import HandS.MakeKw
import HandS.IsInst
import HandS.Walk
import HandS.Codes
import HandS.Zip
import KE.GoesEnum
import HandS.Sort
import HandS.Star
import KE.GoesMore
import PyProof.EnumMake
import HandS.Steps
import PySem.Challenge.RW_wordworth_k09_pieces
/-! lowest terms, in plain Lean -/
namespace RT
def gg (t b : Int) : Int := ((Nat.gcd t.natAbs b.natAbs : Nat) : Int)
def byv (t b : Int) : Int := if b > 0 then gg t b else -(gg t b)
def top (t b : Int) : Int := t.fdiv (byv t b)
def bot (t b : Int) : Int := b.fdiv (byv t b)
theorem gg_pos {t b : Int} (h : b ≠ 0) : 0 < gg t b := by
  have : 0 < Nat.gcd t.natAbs b.natAbs := Nat.gcd_pos_of_pos_right _ (by omega)
  unfold gg; omega
theorem byv_ne {t b : Int} (h : b ≠ 0) : byv t b ≠ 0 := by
  have := gg_pos (t := t) h
  unfold byv; split <;> omega
theorem gg_dvd_l (t b : Int) : gg t b ∣ t := by
  unfold gg
  exact Int.ofNat_dvd_left.mpr (Nat.gcd_dvd_left _ _)
theorem gg_dvd_r (t b : Int) : gg t b ∣ b := by
  unfold gg
  exact Int.ofNat_dvd_left.mpr (Nat.gcd_dvd_right _ _)
theorem byv_dvd_l (t b : Int) : byv t b ∣ t := by
  unfold byv; split
  · exact gg_dvd_l t b
  · exact Int.neg_dvd.mpr (gg_dvd_l t b)
theorem byv_dvd_r (t b : Int) : byv t b ∣ b := by
  unfold byv; split
  · exact gg_dvd_r t b
  · exact Int.neg_dvd.mpr (gg_dvd_r t b)
theorem byv_natAbs (t b : Int) : (byv t b).natAbs = Nat.gcd t.natAbs b.natAbs := by
  unfold byv gg; split <;> simp
theorem fdiv_of_dvd {a b : Int} (hb : b ≠ 0) (h : b ∣ a) : a.fdiv b * b = a := by
  obtain ⟨k, rfl⟩ := h
  rw [Int.mul_fdiv_cancel_left _ hb, Int.mul_comm]
theorem top_mul {t b : Int} (h : b ≠ 0) : top t b * byv t b = t := fdiv_of_dvd (byv_ne h) (byv_dvd_l t b)
theorem bot_mul {t b : Int} (h : b ≠ 0) : bot t b * byv t b = b := fdiv_of_dvd (byv_ne h) (byv_dvd_r t b)
theorem bot_pos {t b : Int} (h : b ≠ 0) : 0 < bot t b := by
  have e := bot_mul (t := t) h
  have g := gg_pos (t := t) h
  unfold byv at e
  split at e
  · rename_i hb
    rcases Int.lt_trichotomy (bot t b) 0 with z | z | z
    · have := Int.mul_neg_of_neg_of_pos z g; omega
    · rw [z] at e; omega
    · exact z
  · rename_i hb
    rcases Int.lt_trichotomy (bot t b) 0 with z | z | z
    · have := Int.mul_neg_of_neg_of_pos z g
      have h2 : bot t b * -gg t b = -(bot t b * gg t b) := Int.mul_neg _ _
      omega
    · rw [z] at e; omega
    · exact z
theorem cop {t b : Int} (h : b ≠ 0) : Nat.Coprime (top t b).natAbs (bot t b).natAbs := by
  have e1 : (top t b).natAbs * Nat.gcd t.natAbs b.natAbs = t.natAbs := by
    rw [← byv_natAbs, ← Int.natAbs_mul, top_mul h]
  have e2 : (bot t b).natAbs * Nat.gcd t.natAbs b.natAbs = b.natAbs := by
    rw [← byv_natAbs, ← Int.natAbs_mul, bot_mul h]
  have hp : 0 < Nat.gcd t.natAbs b.natAbs := Nat.gcd_pos_of_pos_right _ (by omega)
  have : Nat.gcd ((top t b).natAbs * Nat.gcd t.natAbs b.natAbs) ((bot t b).natAbs * Nat.gcd t.natAbs b.natAbs) = Nat.gcd t.natAbs b.natAbs := by rw [e1, e2]
  rw [Nat.gcd_mul_right] at this
  unfold Nat.Coprime
  exact Nat.eq_of_mul_eq_mul_right hp (by rw [this, Nat.one_mul])
/-- two in lowest terms that are worth the same are the same -/
theorem uniq {n d n' d' : Int} (hd : 0 < d) (hd' : 0 < d') (c : Nat.Coprime n.natAbs d.natAbs) (c' : Nat.Coprime n'.natAbs d'.natAbs) (e : n * d' = n' * d) : n = n' ∧ d = d' := by
  have ea : n.natAbs * d'.natAbs = n'.natAbs * d.natAbs := by rw [← Int.natAbs_mul, e, Int.natAbs_mul]
  have h1 : d.natAbs ∣ d'.natAbs := c.symm.dvd_of_dvd_mul_left ⟨n'.natAbs, by rw [ea, Nat.mul_comm]⟩
  have h2 : d'.natAbs ∣ d.natAbs := c'.symm.dvd_of_dvd_mul_left ⟨n.natAbs, by rw [← ea, Nat.mul_comm]⟩
  have h3 : d.natAbs = d'.natAbs := Nat.dvd_antisymm h1 h2
  have h4 : d = d' := by omega
  subst h4
  exact ⟨Int.eq_of_mul_eq_mul_right (by omega) e, rfl⟩
theorem same {t b t' b' : Int} (h : b ≠ 0) (h' : b' ≠ 0) (e : t * b' = t' * b) : top t b = top t' b' ∧ bot t b = bot t' b' := by
  refine uniq (bot_pos h) (bot_pos h') (cop h) (cop h') ?_
  have e1 := top_mul (t := t) h
  have e2 := bot_mul (t := t) h
  have e3 := top_mul (t := t') h'
  have e4 := bot_mul (t := t') h'
  refine Int.eq_of_mul_eq_mul_right (byv_ne (t := t) h) (Int.eq_of_mul_eq_mul_right (byv_ne (t := t') h') ?_)
  calc top t b * bot t' b' * byv t b * byv t' b' = (top t b * byv t b) * (bot t' b' * byv t' b') := by ac_rfl
    _ = t * b' := by rw [e1, e4]
    _ = t' * b := e
    _ = (top t' b' * byv t' b') * (bot t b * byv t b) := by rw [e3, e2]
    _ = top t' b' * bot t b * byv t b * byv t' b' := by ac_rfl
/-- what is in lowest terms stays -/
theorem keeps {n d : Int} (hd : 0 < d) (c : Nat.Coprime n.natAbs d.natAbs) : top n d = n ∧ bot n d = d := by
  have h : d ≠ 0 := by omega
  refine uniq (bot_pos h) hd (cop h) c ?_
  have e1 := top_mul (t := n) h
  have e2 := bot_mul (t := n) h
  refine Int.eq_of_mul_eq_mul_right (byv_ne (t := n) h) ?_
  calc top n d * d * byv n d = (top n d * byv n d) * d := by ac_rfl
    _ = n * d := by rw [e1]
    _ = n * (bot n d * byv n d) := by rw [e2]
    _ = n * bot n d * byv n d := by ac_rfl
theorem one (t : Int) : top t 1 = t ∧ bot t 1 = 1 := keeps (by decide) (Nat.coprime_one_right _)
/-- worth: the fraction is the same number -/
theorem cross {t b : Int} (h : b ≠ 0) : top t b * b = t * bot t b := by
  have e1 := top_mul (t := t) h
  have e2 := bot_mul (t := t) h
  have e : top t b * b = top t b * (bot t b * byv t b) := by rw [e2]
  have e' : t * bot t b = (top t b * byv t b) * bot t b := by rw [e1]
  rw [e, e']; ac_rfl
theorem top_le {t b : Int} (h : b ≠ 0) : (top t b).natAbs ≤ t.natAbs := by
  have e1 : (top t b).natAbs * (byv t b).natAbs = t.natAbs := by rw [← Int.natAbs_mul, top_mul h]
  have : 0 < (byv t b).natAbs := by have := byv_ne (t := t) h; omega
  rw [← e1]; exact Nat.le_mul_of_pos_right _ this
theorem bot_le {t b : Int} (h : b ≠ 0) : (bot t b).natAbs ≤ b.natAbs := by
  have e1 : (bot t b).natAbs * (byv t b).natAbs = b.natAbs := by rw [← Int.natAbs_mul, bot_mul h]
  have : 0 < (byv t b).natAbs := by have := byv_ne (t := t) h; omega
  rw [← e1]; exact Nat.le_mul_of_pos_right _ this
theorem byv_le {t b : Int} (h : b ≠ 0) : (byv t b).natAbs ≤ b.natAbs := by
  rw [byv_natAbs]; exact Nat.le_of_dvd (by omega) (Nat.gcd_dvd_right _ _)
/-- minus and less -/
theorem neg_cop {n d : Int} (c : Nat.Coprime n.natAbs d.natAbs) : Nat.Coprime (0 - n).natAbs d.natAbs := by
  have : (0 - n).natAbs = n.natAbs := by omega
  rw [this]; exact c
/-- distributive, over lowest terms -/
theorem chain {a b c d e f : Int} (hb : b ≠ 0) (hd : d ≠ 0) (hf : f ≠ 0) :
    top (top (a * e) (b * f) * bot (c * e) (d * f) + top (c * e) (d * f) * bot (a * e) (b * f)) (bot (a * e) (b * f) * bot (c * e) (d * f))
      = top (top (a * d + c * b) (b * d) * e) (bot (a * d + c * b) (b * d) * f) ∧
    bot (top (a * e) (b * f) * bot (c * e) (d * f) + top (c * e) (d * f) * bot (a * e) (b * f)) (bot (a * e) (b * f) * bot (c * e) (d * f))
      = bot (top (a * d + c * b) (b * d) * e) (bot (a * d + c * b) (b * d) * f) := by
  have h1 : b * f ≠ 0 := Int.mul_ne_zero hb hf
  have h2 : d * f ≠ 0 := Int.mul_ne_zero hd hf
  have h3 : b * d ≠ 0 := Int.mul_ne_zero hb hd
  have p1 := bot_pos (t := a * e) h1
  have p2 := bot_pos (t := c * e) h2
  have p3 := bot_pos (t := a * d + c * b) h3
  have x1 := cross (t := a * e) h1
  have x2 := cross (t := c * e) h2
  have x3 := cross (t := a * d + c * b) h3
  generalize top (a * e) (b * f) = n1 at *
  generalize bot (a * e) (b * f) = d1 at *
  generalize top (c * e) (d * f) = n2 at *
  generalize bot (c * e) (d * f) = d2 at *
  generalize top (a * d + c * b) (b * d) = n3 at *
  generalize bot (a * d + c * b) (b * d) = d3 at *
  refine same (Int.mul_ne_zero (by omega) (by omega)) (Int.mul_ne_zero (by omega) hf) ?_
  -- (n1 d2 + n2 d1) (d3 f) = (n3 e) (d1 d2)
  refine Int.eq_of_mul_eq_mul_right h3 (Int.eq_of_mul_eq_mul_right hf ?_)
  have L : (n1 * d2 + n2 * d1) * (d3 * f) * (b * d) * f = ((n1 * (b * f)) * (d2 * d * d3) + (n2 * (d * f)) * (d1 * b * d3)) * f := by
    simp only [Int.add_mul, Int.mul_add]
    congr 1 <;> ac_rfl
  have R : n3 * e * (d1 * d2) * (b * d) * f = (n3 * (b * d)) * (e * d1 * d2 * f) := by ac_rfl
  rw [L, R, x1, x2, x3]
  simp only [Int.add_mul, Int.mul_add]
  congr 1 <;> ac_rfl
end RT

set_option Elab.async false
set_option maxRecDepth 100000
namespace RX
open PySem PySem.Spec PyProof.Rows L2
/-- // by a divisor of either sign, below 2 ^ 9000 -/
def CDivZ (_ j : Int) : Prop := j ≠ 0 ∧ j.natAbs.log2 < 9000
theorem op_fdivZ {X : Cx} : OpR X (binaryOp .FloorDiv) (rI CDivZ fun i j => .int (i.fdiv j)) := opI fun _ _ _ _ _ _ _ hc q => floordiv_int hc.1 q (.inl (PyProof.noPylong_of_log2 hc.2))
theorem divZ {i j : Int} {b : Nat} (h : j ≠ 0) (hb : j.natAbs < 2 ^ b) (h0 : 0 < b) (h9 : b ≤ 9000) : CDivZ i j := ⟨h, Nat.lt_of_lt_of_le (PySem.Flt.log2_lt_of h0 hb) h9⟩
/-- the class at C has the operator op as the def at f -/
structure OpOf (K : PySem.W.Frag) (C : Addr) (x : Str) (f : Addr) : Prop where
  first : PySem.W.selfFirst K C = true
  at_ : PySem.W.findIn K (.ref C) x = some (some (.ref f))
  fn : PySem.W.isFn K (.ref f) = true
/-- a op b, both instances of the class at C: what the operator's def promises; it hands back an object -/
def rOwn (C : Addr) (sp : Sp) (E : XK) : R2 := fun x y H Q => ∃ a b dx dy fs gs, x = .ref a ∧ y = .ref b ∧ H a = some (.ins C dx fs) ∧ H b = some (.ins C dy gs) ∧ sp [.ref a, .ref b] H (fun v H' => (∃ c, v = .ref c) ∧ Q v H') E
def rOwn1 (C : Addr) (sp : Sp) (E : XK) : V → Hp → VK → Prop := fun x H Q => ∃ a dx fs, x = .ref a ∧ H a = some (.ins C dx fs) ∧ sp [.ref a] H Q E
section
variable {X : Cx} {CX : CXT} {k : Nat} {C f : Addr} {fd : FuncData} {ps : List Str} {sp : Sp} {E : XK}
theorem op_own {op : Operator} (O : OpOf X.K C (PySem.dunder op.info.2) f) (F : FnOk X.prog X.w X.K X.mg X.base CX k f fd ps sp) (hr : Room k X.A) (hb : Binds X.K fd ps []) (hx : Passes CX X E) : OpR X (binaryOp op) (rOwn C sp E) := by
  intro pins s σ H x y v u Q I rx ry h
  obtain ⟨a, b, dx, dy, fs, gs, rfl, rfl, ha, hb', hs⟩ := h
  cases rx
  cases ry
  obtain ⟨mA, J, _⟩ := ins_get I.hok ha
  obtain ⟨mB, J', _⟩ := ins_get I.hok hb'
  obtain ⟨od, J, _⟩ := J.look
  obtain ⟨od', J', _⟩ := J'.look
  obtain ⟨m, hF⟩ := I.fr
  refine PySem.W.binop_K hF I.ok.mod.kin J J'.type O.first O.at_ O.fn ?_
  refine thn (run_fn (us := [.ref a, .ref b]) (vs := [.ref a, .ref b]) (dvs := []) (ds := []) F hr hb .nil hx I (.cons rfl (.cons rfl .nil)) hs) fun w' s' hq => ?_
  obtain ⟨z, H', I', rz, ⟨c, ez⟩, q⟩ := hq
  subst ez
  cases rz
  exact ⟨.ref c, H', I', rfl, q⟩
theorem un_own {op : UnaryOp} (h1 : op = .USub) (hs : PySem.W.findIn X.K (.ref C) "__neg__" = some (some (.ref f))) (hf : PySem.W.isFn X.K (.ref f) = true) (F : FnOk X.prog X.w X.K X.mg X.base CX k f fd ps sp) (hr : Room k X.A) (hb : Binds X.K fd ps []) (hx : Passes CX X E) : UnR X (unaryOp op) (rOwn1 C sp E) := by
  subst h1
  intro pins s σ H x v Q I rx h
  obtain ⟨a, dx, fs, rfl, ha, hsp⟩ := h
  cases rx
  obtain ⟨mA, J, _⟩ := ins_get I.hok ha
  obtain ⟨od, J, _⟩ := J.look
  obtain ⟨m, hF⟩ := I.fr
  refine PySem.W.ksp_neg hF I.ok.mod.kin J hs hf ?_
  exact run_fn (us := [.ref a]) (vs := [.ref a]) (dvs := []) (ds := []) F hr hb .nil hx I (.cons rfl .nil) hsp
end
end RX

set_option Elab.async false
set_option linter.all false
set_option maxRecDepth 100000
/-! letters: "abcd"[i] and "abcd".index(x) -/
namespace LX
open PySem PySem.Spec PyProof.Rows L2
abbrev abcd : Str := "abcd"
def ltr (i : Nat) : Str := ⟨#[97 + i]⟩
theorem abcd_at {i : Nat} (h : i < 4) : atI abcd.cps.toList (i : Int) = some (97 + i) := by
  have all : ∀ i : Nat, i < 4 → atI abcd.cps.toList (i : Int) = some (97 + i) := by decide +kernel
  exact all i h
theorem abcd_len : abcd.length ≤ sizeLine := by
  have e : abcd.length = 4 := by decide +kernel
  rw [e]
  decide
theorem found {i : Nat} (h : i < 4) : ∃ rest, Builtin.Str.occurrences abcd (ltr i) 0 abcd.length 1 = i :: rest := by
  have all : ∀ i, i < 4 → Builtin.Str.occurrences abcd (ltr i) 0 abcd.length 1 = [i] := by decide +kernel
  exact ⟨[], all i h⟩
def rLetter : V → List V → Hp → VK → Prop := fun x xs H Q => ∃ i : Nat, i < 4 ∧ x = .str abcd ∧ xs = [.str (ltr i)] ∧ Q (.int (i : Nat)) H
theorem mt_letter {X : Cx} : MtR X "str.index" rLetter := by
  intro pins s σ H x xs v us Q I rx rel told
  obtain ⟨i, lt, rfl, rfl, q⟩ := told
  obtain ⟨t, rfl⟩ := rx
  obtain ⟨_, rfl, u, rfl⟩ := vals1 rel
  obtain ⟨rest, at_i⟩ := found lt
  exact PySem.SC.index at_i ⟨.int (i : Nat), H, I.tok _, ⟨_, rfl⟩, q⟩
theorem ltr_inj {i j : Nat} : ltr i = ltr j ↔ i = j := by
  unfold ltr
  constructor
  · intro h
    injection h with h
    have := congrArg (fun (a : Array Nat) => a[0]?) h
    simp at this
    exact this
  · intro h
    rw [h]
end LX
namespace LX
open PySem
/-- the word with the letters w (0 for a) -/
def wd (w : List Nat) : Str := ⟨(w.map (97 + ·)).toArray⟩
theorem wd_len {w : List Nat} : (wd w).length = w.length := by
  unfold wd Str.length
  simp
theorem wd_cps {w : List Nat} : (wd w).cps.toList = w.map (97 + ·) := rfl
theorem wd_at {w : List Nat} {i : Nat} : (wd w).cps[i]? = w[i]?.map (97 + ·) := by
  unfold wd
  simp
theorem wd_append {u v : List Nat} : wd u ++ wd v = wd (u ++ v) := by
  show Str.append (wd u) (wd v) = _
  unfold Str.append wd
  simp
theorem wd_nil : wd [] = Str.empty := rfl
theorem wd_one {i : Nat} : wd [i] = ltr i := rfl
theorem wd_inj : ∀ {u v : List Nat}, wd u = wd v → u = v := by
  intro u v h
  have e : u.map (97 + ·) = v.map (97 + ·) := congrArg (fun s : Str => s.cps.toList) h
  have go : ∀ (u v : List Nat), u.map (97 + ·) = v.map (97 + ·) → u = v := by
    intro u
    induction u with
    | nil =>
      intro v h
      cases v with
      | nil => rfl
      | cons y v => cases h
    | cons x u ih =>
      intro v h
      cases v with
      | nil => cases h
      | cons y v =>
        rw [List.map_cons, List.map_cons] at h
        injection h with h1 h2
        rw [ih v h2, Nat.add_left_cancel h1]
  exact go u v e
theorem strjoin_wd : ∀ {w : List Nat}, Str.join Str.empty (w.map ltr) = wd w
  | [] => rfl
  | [x] => rfl
  | x :: y :: w => by
    show ltr x ++ Str.empty ++ Str.join Str.empty ((y :: w).map ltr) = _
    rw [strjoin_wd (w := y :: w)]
    show Str.append (Str.append (ltr x) Str.empty) (wd (y :: w)) = wd (x :: y :: w)
    unfold Str.append wd ltr Str.empty
    simp
theorem join_wd {w : List Nat} : Txt.join (Str.ofString "") (w.map ltr) = wd w := by
  have e : Str.ofString "" = Str.empty := by decide +kernel
  show Builtin.Str.glued (Str.ofString "") (w.map ltr) = _
  rw [StrLaws.glued_eq_join, e]
  exact strjoin_wd
end LX

set_option Elab.async false
set_option linter.all false
set_option maxRecDepth 100000
set_option maxHeartbeats 1000000
/-! x[::-1] of a string -/
namespace LX
open PySem PySem.Spec PyProof.Rows L2
theorem picks_back (z : Str) : ((Builtin.Str.strSliceIndices none none (-1) z.length).filterMap (z.cps[·]?)).toArray = z.cps.toList.reverse.toArray := by
  show ((sliceRange ((z.cps.size : Int) - 1) (-1) (-1)).filterMap (z.cps[·]?)).toArray = _
  rw [PySem.W.krv_sliceRange, PySem.W.krv_range, List.filterMap_reverse, PySem.W.krv_all]
def tBackS (te : TE) : TE := fun σ H Q => te σ H fun x H1 => ∃ z : Str, x = .str z ∧ z.length ≤ sizeLine ∧ Q (.str ⟨z.cps.toList.reverse.toArray⟩) H1
theorem pe_backS {X : Cx} {e : Expr} {te : TE} {k : Nat} {p1 p2 p3 pos : Pos} (he : PE X e te) : PE X (.Subscript e (.Slice none none (some (.UnaryOp .USub (.Constant (.int 1) k p1) p2)) p3) pos) (tBackS te) := by
  have step : PO X (some (.UnaryOp .USub (.Constant (.int 1) k p1) p2)) (tPart (tUn (rU fun i => .int (-i)) (tC (.int 1)))) := po_some (pe_un un_neg pe_int)
  constructor
  intro pins s σ H Q I told
  refine Subscript_ (thn (he.run pins s σ H _ I told) ?_)
  rintro v s1 ⟨x, H1, I1, rx, z, rfl, short, q⟩
  obtain ⟨t, rfl⟩ := rx
  refine wpAny_Slice (thn (po_none.run pins s1 σ H1 (fun o H2 => o = none ∧ H2 = H1) I1 ⟨rfl, rfl⟩) ?_)
  rintro vl s2 ⟨l, H2, I2, pl, rfl, rfl⟩
  refine thn (po_none.run pins s2 σ H2 (fun o H3 => o = none ∧ H3 = H2) I2 ⟨rfl, rfl⟩) ?_
  rintro vu s3 ⟨u, H3, I3, pu, rfl, rfl⟩
  refine thn (step.run pins s3 σ H3 (fun o H4 => o = some (-1) ∧ H4 = H3) I3 ⟨1, rfl, -1, rfl, rfl, rfl⟩) ?_
  rintro vs s4 ⟨o, H4, I4, ps, rfl, rfl⟩
  obtain ⟨a, rfl, ea⟩ := IsPart.raw pl
  obtain ⟨b, rfl, eb⟩ := IsPart.raw pu
  obtain ⟨c, rfl, ec⟩ := IsPart.raw ps
  have I5 : Inv X pins σ H4 { s4 with heap := s4.heap.push { cls := .type "slice", data := .fields #[partValue a, partValue b, partValue c] } } := I4.kept (t' := s4.toks) fun _ _ y => Heap.get?_push_of_some _ y
  show wpAny (model X.prog X.w) X.A (subscriptTail e (.Slice none none (some (.UnaryOp .USub (.Constant (.int 1) k p1) p2)) p3) (.str z t) (.ref s4.heap.objs.size)) (EP X pins σ Q) X.xe { s4 with heap := s4.heap.push { cls := .type "slice", data := .fields #[partValue a, partValue b, partValue c] } }
  refine tail_any (ops := [.ref s4.heap.objs.size, .str z t]) (typeIs_str _ z t) F.slot_str_getitem.lookup ?_ (by with_unfolding_all rfl)
  refine wpAny_getItem_str_slice (l := a) (u := b) (st := c) (Heap.IsSliceOf.new _ _ _ _) (by rw [ec]; rfl) ?_
  unfold sliceMade slicePicked
  rw [ea, eb, ec]
  show Made.post (if ((-1 : Int) == 1 && (Builtin.Str.strSliceIndices none none (-1) z.length).length == z.length) = true then Made.val (.str z t) else Made.str ⟨((Builtin.Str.strSliceIndices none none (-1) z.length).filterMap (z.cps[·]?)).toArray⟩) (EP X pins σ Q) _
  have no : ((-1 : Int) == 1 && (Builtin.Str.strSliceIndices none none (-1) z.length).length == z.length) = false := by
    rw [show ((-1 : Int) == 1) = false from rfl]
    rfl
  rw [no, picks_back]
  refine ⟨?_, .str _, H4, I5.tok _, ⟨_, rfl⟩, q⟩
  show z.cps.toList.reverse.toArray.size ≤ sizeLine
  rw [List.size_toArray, List.length_reverse, Array.length_toList]
  exact short
theorem back_wd {w : List Nat} : (⟨(wd w).cps.toList.reverse.toArray⟩ : Str) = wd w.reverse := by
  unfold wd
  simp
end LX

/-! words over the first k letters, in plain Lean: the word at a place, lists of all words of a length, the order -/
namespace WD
/-- the word of l letters at the place t among k ^ l, ascending -/
def dig (k : Nat) : Nat → Nat → List Nat
  | 0, _ => []
  | l + 1, t => dig k l (t / k) ++ [97 + t % k]
theorem dig_len {k : Nat} : ∀ {l t : Nat}, (dig k l t).length = l
  | 0, _ => rfl
  | l + 1, t => by
    show (dig k l (t / k) ++ [97 + t % k]).length = l + 1
    rw [List.length_append, dig_len]
    rfl
theorem dig_mem {k : Nat} (hk : 0 < k) : ∀ {l t x : Nat}, x ∈ dig k l t → 97 ≤ x ∧ x < 97 + k
  | 0, _, _, h => absurd h List.not_mem_nil
  | l + 1, t, x, h => by
    rcases List.mem_append.mp h with h | h
    · exact dig_mem hk h
    · rw [List.mem_singleton.mp h]
      have := Nat.mod_lt t hk
      omega
theorem dig_step {k l t x : Nat} (hx : x < k) : dig k (l + 1) (t * k + x) = dig k l t ++ [97 + x] := by
  show dig k l ((t * k + x) / k) ++ [97 + (t * k + x) % k] = _
  rw [Nat.mul_comm, Nat.mul_add_div (by omega), Nat.div_eq_of_lt hx, Nat.add_zero, Nat.mul_add_mod, Nat.mod_eq_of_lt hx]
theorem dig_head {k : Nat} (hk : 0 < k) : ∀ {l x t : Nat}, x < k → t < k ^ l → dig k (l + 1) (x * k ^ l + t) = (97 + x) :: dig k l t
  | 0, x, t, hx, ht => by
    have : t = 0 := by rw [Nat.pow_zero] at ht; omega
    subst this
    show [] ++ [97 + (x * k ^ 0 + 0) % k] = _
    rw [Nat.pow_zero, Nat.mul_one, Nat.add_zero, Nat.mod_eq_of_lt hx]
    rfl
  | l + 1, x, t, hx, ht => by
    show dig k (l + 1) ((x * k ^ (l + 1) + t) / k) ++ [97 + (x * k ^ (l + 1) + t) % k] = (97 + x) :: (dig k l (t / k) ++ [97 + t % k])
    have e : x * k ^ (l + 1) + t = k * (x * k ^ l) + t := by rw [Nat.pow_succ]; ac_rfl
    have lt : t / k < k ^ l := Nat.div_lt_of_lt_mul (by rw [Nat.mul_comm]; exact ht)
    rw [e, Nat.mul_add_div hk, Nat.mul_add_mod, dig_head hk (l := l) hx lt]
    rfl
/-- a count of a times k by two indices -/
theorem range_mul {k : Nat} : ∀ {a : Nat}, List.range (a * k) = (List.range a).flatMap fun t => (List.range k).map fun x => t * k + x
  | 0 => by rw [Nat.zero_mul]; rfl
  | a + 1 => by
    rw [Nat.succ_mul, List.range_add, range_mul (a := a), List.range_succ, List.flatMap_append]
    congr 1
    rw [List.flatMap_cons, List.flatMap_nil, List.append_nil]
def all (k l : Nat) : List (List Nat) := (List.range (k ^ l)).map (dig k l)
theorem all_len {k l : Nat} : (all k l).length = k ^ l := by
  unfold all
  rw [List.length_map, List.length_range]
theorem all_at {k l t : Nat} (h : t < k ^ l) : (all k l)[t]? = some (dig k l t) := by
  unfold all
  rw [List.getElem?_map, List.getElem?_range h]
  rfl
theorem all_zero {k : Nat} : all k 0 = [[]] := rfl
/-- a letter behind each word -/
theorem all_behind {k l : Nat} : all k (l + 1) = (all k l).flatMap fun w => (List.range k).map fun x => w ++ [97 + x] := by
  unfold all
  rw [Nat.pow_succ, range_mul, List.map_flatMap, List.flatMap_map]
  congr 1
  funext t
  rw [List.map_map]
  refine List.map_congr_left fun x hx => ?_
  exact dig_step (List.mem_range.mp hx)
/-- a letter ahead of each word -/
theorem all_ahead {k l : Nat} (hk : 0 < k) : all k (l + 1) = (List.range k).flatMap fun x => (all k l).map fun w => (97 + x) :: w := by
  unfold all
  rw [Nat.pow_succ, Nat.mul_comm, range_mul, List.map_flatMap]
  have e : ∀ x, x ∈ List.range k → List.map (dig k (l + 1)) (List.map (fun t => x * k ^ l + t) (List.range (k ^ l))) = List.map (fun w => (97 + x) :: w) (List.map (dig k l) (List.range (k ^ l))) := fun x hx => by
    rw [List.map_map, List.map_map]
    exact List.map_congr_left fun t ht => dig_head hk (List.mem_range.mp hx) (List.mem_range.mp ht)
  have go : ∀ (xs : List Nat), (∀ x, x ∈ xs → x ∈ List.range k) → (xs.flatMap fun x => List.map (dig k (l + 1)) (List.map (fun t => x * k ^ l + t) (List.range (k ^ l)))) = xs.flatMap fun x => List.map (fun w => (97 + x) :: w) (List.map (dig k l) (List.range (k ^ l))) := by
    intro xs
    induction xs with
    | nil => intro _; rfl
    | cons x xs ih =>
      intro h
      rw [List.flatMap_cons, List.flatMap_cons, e x (h x List.mem_cons_self), ih fun y hy => h y (List.mem_cons_of_mem _ hy)]
  exact go _ fun _ h => h
/-! ### the order -/
theorem lt_append : ∀ {u v a b : List Nat}, u.length = v.length → u < v → u ++ a < v ++ b
  | [], [], _, _, _, h => absurd h (by decide)
  | [], _ :: _, _, _, e, _ => by cases e
  | _ :: _, [], _, _, e, _ => by cases e
  | x :: u, y :: v, a, b, e, h => by
    show x :: (u ++ a) < y :: (v ++ b)
    rw [List.cons_lt_cons_iff] at h ⊢
    rcases h with h | ⟨h1, h2⟩
    · exact .inl h
    · exact .inr ⟨h1, lt_append (Nat.succ.inj e) h2⟩
theorem append_lt : ∀ {w a b : List Nat}, a < b → w ++ a < w ++ b
  | [], _, _, h => h
  | x :: w, a, b, h => by
    show x :: (w ++ a) < x :: (w ++ b)
    rw [List.cons_lt_cons_iff]
    exact .inr ⟨rfl, append_lt h⟩
/-- earlier places, earlier words -/
theorem dig_lt {k : Nat} (hk : 0 < k) : ∀ {l s t : Nat}, s < t → t < k ^ l → dig k l s < dig k l t
  | 0, s, t, h, ht => by
    rw [Nat.pow_zero] at ht
    omega
  | l + 1, s, t, h, ht => by
    show dig k l (s / k) ++ [97 + s % k] < dig k l (t / k) ++ [97 + t % k]
    have le : s / k ≤ t / k := Nat.div_le_div_right (Nat.le_of_lt h)
    have lt : t / k < k ^ l := Nat.div_lt_of_lt_mul (by rw [Nat.mul_comm]; exact ht)
    rcases Nat.lt_or_eq_of_le le with q | q
    · exact lt_append (by rw [dig_len, dig_len]) (dig_lt hk q lt)
    · rw [q]
      refine append_lt ?_
      have e1 := Nat.div_add_mod s k
      have e2 := Nat.div_add_mod t k
      rw [q] at e1
      rw [List.cons_lt_cons_iff]
      exact .inl (by omega)
theorem lt_irrefl (u : List Nat) : ¬ u < u := List.lt_irrefl u
/-- the first place at which two words of one length differ tells -/
theorem lt_at : ∀ {u v : List Nat} {i x y : Nat}, u.length = v.length → (∀ j, j < i → u[j]? = v[j]?) → u[i]? = some x → v[i]? = some y → x ≠ y → (u < v ↔ x < y)
  | [], _, i, x, y, _, _, h, _, _ => by rw [List.getElem?_nil] at h; cases h
  | _ :: _, [], _, _, _, e, _, _, _, _ => by cases e
  | a :: u, b :: v, 0, x, y, e, _, h1, h2, ne => by
    cases h1
    cases h2
    rw [List.cons_lt_cons_iff]
    constructor
    · rintro (h | ⟨h, _⟩)
      · exact h
      · exact absurd h ne
    · exact fun h => .inl h
  | a :: u, b :: v, i + 1, x, y, e, s, h1, h2, ne => by
    have ab : a = b := by
      have := s 0 (Nat.succ_pos i)
      exact Option.some.inj this
    subst ab
    have ih := lt_at (u := u) (v := v) (i := i) (Nat.succ.inj e) (fun j hj => s (j + 1) (Nat.succ_lt_succ hj)) h1 h2 ne
    rw [List.cons_lt_cons_iff]
    constructor
    · rintro (h | ⟨_, h⟩)
      · exact absurd h (Nat.lt_irrefl _)
      · exact ih.mp h
    · exact fun h => .inr ⟨rfl, ih.mpr h⟩
end WD

set_option Elab.async false
set_option maxRecDepth 100000
namespace RX
open PySem L2
def topS (i : Nat) : Stmt := PySem.Challenge.pw_wordworth_k09_pieces.main.body.getD i (.Pass ⟨0, 0, 0, 0⟩)
theorem Same.upd {H : Hp} {p : Addr} {o : HO} (h : H p = none) : Same H (upd H p o) := fun b x e => by
  rw [upd_ne (ne_of_none e h)]
  exact e
end RX

set_option Elab.async false
set_option maxRecDepth 100000
namespace RX
open PySem L2
/-! ### the draws -/
abbrev sFeed : Stmt := topS 6
abbrev sDraw : Stmt := topS 7
/-- the feed stands at a: its cells, the next place, what is left of a great cell, the seed -/
structure FeedIs (H : Hp) (a cl : Addr) (cs : List Int) (i p s : Int) : Prop where
  hA : H a = some (.lst [.ref cl, .int i, .int p, .int s])
  hC : H cl = some (.lst (cs.map V.int))
  ne : cl ≠ a
  i0 : 0 ≤ i
  p0 : 0 ≤ p
  s0 : 0 ≤ s
  s1 : s < 2147483648
  len : cs.length ≤ 63
  nn : ∀ c ∈ cs, 0 ≤ c
def FeedAt (H : Hp) (a cl : Addr) : Prop := ∃ cs i p s, FeedIs H a cl cs i p s
/-- all but what stands at a is as it was -/
def But (a : Addr) (H H' : Hp) : Prop := ∀ b o, H b = some o → b ≠ a → H' b = some o
theorem But.refl (a : Addr) (H : Hp) : But a H H := fun _ _ h _ => h
theorem But.trans {a : Addr} {H H1 H2 : Hp} (x : But a H H1) (y : But a H1 H2) : But a H H2 := fun b o h n => y b o (x b o h n) n
theorem Same.but {a : Addr} {H H1 : Hp} (x : Same H H1) : But a H H1 := fun b o h _ => x b o h
theorem But.upd (a : Addr) (H : Hp) (o : HO) : But a H (L2.upd H a o) := fun b o' h n => by rw [upd_ne n]; exact h
theorem FeedIs.same {H H' : Hp} {a cl : Addr} {cs : List Int} {i p s : Int} (h : FeedIs H a cl cs i p s) (x : Same H H') : FeedIs H' a cl cs i p s :=
  ⟨x _ _ h.hA, x _ _ h.hC, h.ne, h.i0, h.p0, h.s0, h.s1, h.len, h.nn⟩
theorem FeedAt.same {H H' : Hp} {a cl : Addr} (h : FeedAt H a cl) (x : Same H H') : FeedAt H' a cl := let ⟨cs, i, p, s, f⟩ := h; ⟨cs, i, p, s, f.same x⟩
/-- the feed's list written anew -/
theorem FeedIs.put {H : Hp} {a cl : Addr} {cs : List Int} {i p s i' p' s' : Int} (h : FeedIs H a cl cs i p s) (i0 : 0 ≤ i') (p0 : 0 ≤ p') (s0 : 0 ≤ s') (s1 : s' < 2147483648) :
    FeedIs (upd H a (.lst [.ref cl, .int i', .int p', .int s'])) a cl cs i' p' s' :=
  ⟨upd_same, by rw [upd_ne h.ne]; exact h.hC, h.ne, i0, p0, s0, s1, h.len, h.nn⟩
def spFeed (K : PySem.W.Frag) : Sp := fun vs H Q _ => ∃ (a : Addr) (ns : List Int), vs = [.ref a] ∧ SqL K H a (ns.map V.int) ∧ ns.length ≤ 63 ∧ ∀ (r cl : Addr) (H' : Hp), Same H H' → H r = none → H cl = none → FeedAt H' r cl → Q (.ref r) H'
def spDraw : Sp := fun vs H Q _ => ∃ (a cl : Addr) (m : Int), vs = [.ref a, .int m] ∧ FeedAt H a cl ∧ 0 < m ∧ m < 1073741824 ∧ ∀ (r : Int) (H' : Hp), 0 ≤ r → r < m → FeedAt H' a cl → But a H H' → Q (.int r) H'
def spGreat : Sp := fun vs H Q _ => ∃ (a cl : Addr) (m : Int), vs = [.ref a, .int m] ∧ FeedAt H a cl ∧ 0 ≤ m ∧ m ≤ 100 ∧ ∀ (r : Int) (H' : Hp), 0 ≤ r → r < 100000 ^ m.toNat → FeedAt H' a cl → But a H H' → Q (.int r) H'
structure TxtL (mg : Str → Option Value) : Prop where
  abs : mg "abs" = none
  len : mg "len" = none
  int : mg "int" = none
  max : mg "max" = none
  range : mg "range" = none
  isi : mg "isinstance" = none
  bool : mg "bool" = none
section
variable {P : Program} {w : World} {K : PySem.W.Frag} {mg : Str → Option Value} {base : Heap}
theorem scFe : FnScope ["script", "cell"] ["script"] (defScope sFeed) := ⟨rfl, rfl, rfl, by decide +kernel, rfl, by decide +kernel, by decide +kernel⟩
theorem cut63 (xs : List V) (h : xs.length ≤ 63) : cutV xs none (some 63) = xs := by
  unfold cutV
  rw [show HT.sIx xs.length xs.length (some 63) = min 63 xs.length from HT.sIx_nat xs.length xs.length 63, HT.sIx_none, Nat.min_eq_right h, List.drop_zero, Nat.sub_zero]
  exact List.take_length
theorem ok_feed {f : Addr} {fd : FuncData} (F : Fun K "_law_feed" "_law_feed" sFeed f fd) (T : TxtL mg) : FnOk P w K mg base CX0 1 f fd ["script"] (spFeed K) := by
  refine F.ok scFe (fun vs H Q E h => ?_) (fun cdv A outer s H vs Q E hr h => ?_)
  · obtain ⟨a, ns, rfl, _⟩ := h
    rfl
  · obtain ⟨a, ns, rfl, hS, hl, k⟩ := h
    refine ⟨_, pss_one (ps_ret (pe_lst (pa_cons (pe_lc (own := [("cell", 1)]) (g := gName 1) (tt := tYes) rfl scFe.nd (pi_list (pe_slice sl_list (pv 0) po_none (po_some pe_int))) (blkOk_by (N := ["script", "cell"]) (sc := defScope sFeed) (by decide +kernel))
        (fun _ _ _ _ _ => pg_name (i := 1) scFe.nd rfl (Or.inl rfl)) (fun _ _ _ _ _ => pts_nil) (fun _ _ _ _ _ => pe_callB call_abs (by rfl) T.abs (by decide +kernel) (pa_cons (pv 1) pa_nil)))
      (pa_cons pe_int (pa_cons pe_int (pa_cons (pe_op op_add pe_int (pe_callB call_len_seq (by rfl) T.len PySem.boot_len (pa_cons (pv 0) pa_nil))) pa_nil)))))), ?_⟩
    refine ⟨.ref a, rfl, 63, rfl, a, ns.map V.int, rfl, hS, fun c nc => ?_⟩
    rw [cut63 _ (by rw [List.length_map]; exact hl)]
    have s1 : Same H (upd H c (.lst (ns.map V.int))) := Same.upd nc
    refine ⟨c, rfl, ⟨_, SqL.of upd_same⟩, fun D nD => ?_⟩
    have ncD : c ≠ D := ne_of_none upd_same nD
    have nD0 : H D = none := s1.free nD
    refine lc_list (K := K) (a := c) (xs := ns.map V.int) (fun i H2 => Same H H2 ∧ H2 c = some (.lst (ns.map V.int)) ∧ H2 D = some (.lst (((ns.take i).map fun z => if z < 0 then -z else z).map V.int))) ⟨s1.trans (Same.upd nD), by rw [upd_ne ncD]; exact upd_same, upd_same⟩ (fun i H2 _ h => SqL.of h.2.1) ?_ ?_
    · rintro i x H2 hi ⟨s2, hq, hD⟩
      obtain ⟨z, hz, rfl⟩ : ∃ z, ns[i]? = some z ∧ V.int z = x := by
        rw [List.getElem?_map] at hi
        cases e : ns[i]? with
        | none => rw [e] at hi; cases hi
        | some z => rw [e] at hi; exact ⟨z, rfl, Option.some.inj hi⟩
      have hi63 : i < ns.length := (List.getElem?_eq_some_iff.mp hz).1
      refine ⟨rfl, ?_⟩
      refine ⟨_, rfl, z, rfl, _, hD, ?_, ?_⟩
      · rw [List.length_map, List.length_map, List.length_take]
        exact Nat.lt_of_le_of_lt (Nat.min_le_left _ _) (small1000 (by omega))
      · refine ⟨fun b o e => ?_, by rw [upd_ne ncD]; exact hq, ?_⟩
        · rw [upd_ne (ne_of_none e nD0)]
          exact s2 _ _ e
        · rw [upd_same, List.take_add_one, hz, List.map_append, List.map_append]
          rfl
    · rintro H2 ⟨s2, hq, hD⟩
      rw [List.length_map, List.take_length] at hD
      refine ⟨_, rfl, a, _, rfl, .inl (s2.seq hS), _, _, rfl, rfl, (by show 4 ≤ sizeLine; decide), fun r nr => ?_⟩
      have nDr : D ≠ r := ne_of_none hD nr
      refine k r D _ (s2.trans (Same.upd nr)) (s2.free nr) nD0 ⟨ns.map fun z => if z < 0 then -z else z, 0, 0, _, upd_same, by rw [upd_ne nDr]; exact hD, nDr, by omega, by omega, ?_, ?_, ?_, ?_⟩
      · rw [List.length_map]; omega
      · rw [List.length_map]; omega
      · rw [List.length_map]; exact hl
      · intro c hc
        obtain ⟨z, _, rfl⟩ := List.mem_map.mp hc
        show (0 : Int) ≤ if z < 0 then -z else z
        split <;> omega
theorem scDr : FnScope ["feed", "limit", "cells", "cell", "found"] ["feed", "limit"] (defScope sDraw) := ⟨rfl, rfl, rfl, by decide +kernel, rfl, by decide +kernel, by decide +kernel⟩
theorem ok_draw {f : Addr} {fd : FuncData} (F : Fun K "_law_draw" "_law_draw" sDraw f fd) (T : TxtL mg) : FnOk P w K mg base CX0 1 f fd ["feed", "limit"] spDraw := by
  refine F.ok scDr (fun vs H Q E h => ?_) (fun cdv A outer s H vs Q E hr h => ?_)
  · obtain ⟨a, cl, m, rfl, _⟩ := h
    rfl
  · obtain ⟨a, cl, m, rfl, ⟨cs, i, p, s, f0⟩, hm, hm2, k⟩ := h
    refine ⟨_, pss_cons (ps_set (i := 2) scDr.nd rfl (.inl rfl) (pe_ix ix_list (pv 0) pe_int (fun _ _ => rfl)))
      (C8.pss_cut (ps_if (PW.pt (pw_and (pt_cmpR op_eq (pe_ix ix_list (pv 0) pe_int (fun _ _ => rfl)) pe_int (nomark _)) (pw_and1 (pt_cmpR op_lt (pe_ix ix_list (pv 0) pe_int (fun _ _ => rfl)) (pe_callB call_len_seq (by rfl) T.len PySem.boot_len (pa_cons (pv 2) pa_nil)) (nomark _)))))
        (pss_cons (ps_set (i := 3) scDr.nd rfl (.inl rfl) (pe_ix ix_list (pv 2) (pe_ix ix_list (pv 0) pe_int (fun _ _ => rfl)) (fun _ _ => rfl)))
        (pss_cons (ps_asg (pe_op op_add (pe_ix ix_list (pv 0) pe_int (fun _ _ => rfl)) pe_int) (pg_sub (pv 0) pe_int set_list))
        (pss_one (ps_if (pt_cmpR op_ge (pv 3) (pe_op op_pow pe_int pe_int) (nomark _))
          (pss_one (ps_asg (pv 3) (pg_sub (pv 0) pe_int set_list)))
          (pss_one (ps_asg (pe_op op_mod (pe_callTy call_int1 (by rfl) T.int (by decide +kernel) (pa_cons (pe_op op_add (pe_op op_add (pe_op op_mul (pe_ix ix_list (pv 0) pe_int (fun _ _ => rfl)) pe_int) (pe_op op_mul (pv 3) pe_int)) pe_int) pa_nil)) pe_int) (pg_sub (pv 0) pe_int set_list)))))))
        pss_nil)
      (C8.pss_cut (ps_if (pt_cmpR op_gt (pe_ix ix_list (pv 0) pe_int (fun _ _ => rfl)) pe_int (nomark _))
        (pss_cons (ps_set (i := 4) scDr.nd rfl (.inl rfl) (pe_op op_mod (pe_callTy call_int1 (by rfl) T.int (by decide +kernel) (pa_cons (pe_ix ix_list (pv 0) pe_int (fun _ _ => rfl)) pa_nil)) (pv 1)))
        (pss_cons (ps_asg (pe_op op_fdiv (pe_ix ix_list (pv 0) pe_int (fun _ _ => rfl)) (pv 1)) (pg_sub (pv 0) pe_int set_list))
        (pss_one (ps_ret (pv 4)))))
        pss_nil)
      (pss_cons (ps_asg (pe_op op_mod (pe_callTy call_int1 (by rfl) T.int (by decide +kernel) (pa_cons (pe_op op_add (pe_op op_mul (pe_ix ix_list (pv 0) pe_int (fun _ _ => rfl)) pe_int) pe_int) pa_nil)) pe_int) (pg_sub (pv 0) pe_int set_list))
      (pss_one (ps_ret (pe_op op_mod (pe_callTy call_int1 (by rfl) T.int (by decide +kernel) (pa_cons (pe_op op_add (pe_op op_fdiv (pe_op op_mul (pe_ix ix_list (pv 0) pe_int (fun _ _ => rfl)) (pe_ix ix_list (pv 0) pe_int (fun _ _ => rfl))) pe_int) (pe_op op_fdiv (pe_ix ix_list (pv 0) pe_int (fun _ _ => rfl)) pe_int)) pa_nil)) (pv 1))))))), ?_⟩
    -- cells = feed[0]
    refine ⟨_, rfl, a, _, 0, _, rfl, rfl, SqL.of f0.hA, rfl, ?_⟩
    -- behind the first if: the feed again
    refine ⟨fun σ' H' => ∃ x2 x3 x4, σ' = [some (.ref a), some (.int m), x2, x3, x4] ∧ FeedAt H' a cl ∧ But a H H', ?_, ?_⟩
    · refine ⟨_, rfl, a, _, 2, _, rfl, rfl, SqL.of f0.hA, rfl, rfl, _, rfl, ?_⟩
      refine ite2 (fun _ => ?_) (fun _ => ?_)
      · refine ⟨_, rfl, a, _, 1, _, rfl, rfl, SqL.of f0.hA, rfl, _, rfl, cl, _, rfl, .inl (SqL.of f0.hC), _, _, rfl, rfl, _, rfl, ?_⟩
        refine ite2 (fun z => ?_) (fun _ => ?_)
        · have z := of_decide_eq_true z
          rw [List.length_map] at z
          have hi : (i.toNat : Int) = i := Int.toNat_of_nonneg f0.i0
          have hlt : i.toNat < cs.length := by omega
          have hc : (cs.map V.int)[i.toNat]? = some (V.int cs[i.toNat]) := by
            rw [List.getElem?_map, List.getElem?_eq_getElem hlt]
            rfl
          have c0 : 0 ≤ cs[i.toNat] := f0.nn _ (List.getElem_mem hlt)
          generalize hcv : cs[i.toNat] = cv at hc c0
          have f1 := f0.put (i' := i + 1) (by have := f0.i0; omega) f0.p0 f0.s0 f0.s1
          refine ⟨_, rfl, _, rfl, a, _, 1, _, rfl, rfl, SqL.of f0.hA, rfl, cl, _, i, _, rfl, rfl, SqL.of f0.hC, at_of hi.symm hc, ?_⟩
          refine ⟨_, rfl, a, _, 1, _, rfl, rfl, SqL.of f0.hA, rfl, _, _, rfl, rfl, _, rfl, a, _, _, 1, rfl, rfl, f0.hA, rfl, ?_⟩
          refine ⟨_, rfl, _, _, rfl, rfl, (by show (0 : Int) ≤ 18 ∧ (18 : Int) ≤ 1000000 ∧ (10 : Int).natAbs < 2 ^ 64; decide), _, _, rfl, rfl, _, rfl, ?_⟩
          refine ite2 (fun _ => ?_) (fun _ => ?_)
          · refine ⟨_, rfl, _, rfl, a, _, _, 2, rfl, rfl, upd_same, rfl, ?_⟩
            exact ⟨_, _, _, rfl, ⟨cs, _, _, _, f1.put (i' := i + 1) (p' := cv) (s' := s) (by have := f0.i0; omega) c0 f0.s0 f0.s1⟩, (But.upd a H _).trans (But.upd a _ _)⟩
          · refine ⟨_, rfl, a, _, 3, _, rfl, rfl, SqL.of upd_same, rfl, _, _, rfl, rfl, .inr (by decide), _, rfl, _, _, rfl, rfl, .inr (by decide), _, _, rfl, rfl, _, _, rfl, rfl, .inl ⟨_, rfl, _, _, rfl, rfl, (by show (0 : Int) < 2147483647; decide), _, rfl, a, _, _, 3, rfl, rfl, upd_same, rfl, ?_⟩⟩
            refine ⟨_, _, _, rfl, ⟨cs, _, _, _, f1.put (i' := i + 1) (p' := p) (by have := f0.i0; omega) f0.p0 (Int.emod_nonneg _ (by decide)) (Int.lt_trans (Int.emod_lt_of_pos _ (by decide)) (by decide))⟩, (But.upd a H _).trans (But.upd a _ _)⟩
        · exact ⟨_, _, _, rfl, ⟨cs, i, p, s, f0⟩, But.refl a H⟩
      · exact ⟨_, _, _, rfl, ⟨cs, i, p, s, f0⟩, But.refl a H⟩
    · rintro σ' H1 ⟨x2, x3, x4, rfl, ⟨cs, i, p, s, f1⟩, b1⟩
      refine ⟨fun σ' H' => ∃ x2 x3 x4, σ' = [some (.ref a), some (.int m), x2, x3, x4] ∧ FeedAt H' a cl ∧ But a H H', ?_, ?_⟩
      · refine ⟨_, rfl, a, _, 2, _, rfl, rfl, SqL.of f1.hA, rfl, _, _, rfl, rfl, _, rfl, ?_⟩
        refine ite2 (fun z => ?_) (fun _ => ?_)
        · refine ⟨_, rfl, a, _, 2, _, rfl, rfl, SqL.of f1.hA, rfl, .inl ⟨_, rfl, _, rfl, _, _, rfl, rfl, hm, ?_⟩⟩
          refine ⟨_, rfl, a, _, 2, _, rfl, rfl, SqL.of f1.hA, rfl, _, rfl, _, _, rfl, rfl, ⟨hm, hm2⟩, _, rfl, a, _, _, 2, rfl, rfl, f1.hA, rfl, ?_⟩
          refine ⟨_, rfl, ?_⟩
          exact k _ _ (Int.emod_nonneg _ (by omega)) (Int.emod_lt_of_pos _ hm) ⟨cs, _, _, _, f1.put (i' := i) (s' := s) f1.i0 (Int.ediv_nonneg f1.p0 (by omega)) f1.s0 f1.s1⟩ (b1.trans (But.upd a _ _))
        · exact ⟨_, _, _, rfl, ⟨cs, i, p, s, f1⟩, b1⟩
      · rintro σ' H2 ⟨x2, x3, x4, rfl, ⟨cs, i, p, s, f2⟩, b2⟩
        refine ⟨_, rfl, a, _, 3, _, rfl, rfl, SqL.of f2.hA, rfl, _, _, rfl, rfl, .inr (by decide), _, _, rfl, rfl, .inl ⟨_, rfl, _, _, rfl, rfl, (by show (0 : Int) < 2147483629; decide), _, rfl, a, _, _, 3, rfl, rfl, f2.hA, rfl, ?_⟩⟩
        have e0 := Int.emod_nonneg (s * 16807 + 12345) (show (2147483629 : Int) ≠ 0 by decide)
        have e1 := Int.emod_lt_of_pos (s * 16807 + 12345) (show (0 : Int) < 2147483629 by decide)
        have f3 := f2.put (i' := i) (p' := p) (s' := (s * 16807 + 12345) % 2147483629) f2.i0 f2.p0 e0 (by omega)
        refine ⟨_, rfl, a, _, 3, _, rfl, rfl, SqL.of upd_same, rfl, _, rfl, a, _, 3, _, rfl, rfl, SqL.of upd_same, rfl, _, _, rfl, rfl, .inl ⟨by omega, by omega⟩, _, _, rfl, rfl, ⟨by decide, by decide⟩,
          _, rfl, a, _, 3, _, rfl, rfl, SqL.of upd_same, rfl, _, _, rfl, rfl, ⟨by decide, by decide⟩, _, _, rfl, rfl, .inl ⟨_, rfl, _, rfl, _, _, rfl, rfl, hm, ?_⟩⟩
        exact k _ _ (Int.emod_nonneg _ (by omega)) (Int.emod_lt_of_pos _ hm) ⟨cs, _, _, _, f3⟩ (b2.trans (But.upd a _ _))
end
end RX
namespace RX
open PySem L2
theorem But.free {a cl : Addr} {H H1 : Hp} {r : Addr} (x : But a H H1) (h : H1 r = none) (f : FeedAt H1 a cl) : H r = none := by
  cases q : H r with
  | none => rfl
  | some o =>
    by_cases e : r = a
    · subst e
      obtain ⟨cs, i, p, s, f⟩ := f
      rw [f.hA] at h
      cases h
    · rw [x r o q e] at h
      cases h
/-- a def of the law that is called by its name -/
structure CalN (P : Program) (w : World) (K : PySem.W.Frag) (mg : Str → Option Value) (base : Heap) (x : Str) (k : Nat) (ps : List Str) (sp : Sp) (f : Addr) (fd : FuncData) : Prop where
  G : FnOk P w K mg base CX0 k f fd ps sp
  m : mg x = some (.ref f)
  kp : PySem.W.keepIn K (.ref f) = true
  b : Binds K fd ps []
end RX

set_option Elab.async false
set_option maxRecDepth 100000
namespace RX
open PySem L2
/-! ### nested data: what stands at a value, and that it stays -/
inductive Dat where
  | non
  | bl (b : Bool)
  | int (i : Int)
  | str (s : Str)
  | tup (ds : List Dat)
  | lst (ds : List Dat)
  | sq (ds : List Dat)
/-- the value holds the data; none of its objects is in N -/
inductive At (N : Addr → Prop) (H : Hp) : V → Dat → Prop where
  | non : At N H .non .non
  | bl (b : Bool) : At N H (.bl b) (.bl b)
  | int (i : Int) : At N H (.int i) (.int i)
  | str (s : Str) : At N H (.str s) (.str s)
  | tup {p : Addr} {xs : List V} {ds : List Dat} (h : H p = some (.tup xs)) (n : ¬ N p) (l : xs.length = ds.length) (e : ∀ (i : Nat) (x : V) (d : Dat), xs[i]? = some x → ds[i]? = some d → At N H x d) : At N H (.ref p) (.tup ds)
  | lst {p : Addr} {xs : List V} {ds : List Dat} (h : H p = some (.lst xs)) (n : ¬ N p) (l : xs.length = ds.length) (e : ∀ (i : Nat) (x : V) (d : Dat), xs[i]? = some x → ds[i]? = some d → At N H x d) : At N H (.ref p) (.lst ds)
  | sq {p : Addr} {xs : List V} {ds : List Dat} (h : H p = some (.tup xs) ∨ H p = some (.lst xs)) (n : ¬ N p) (l : xs.length = ds.length) (e : ∀ (i : Nat) (x : V) (d : Dat), xs[i]? = some x → ds[i]? = some d → At N H x d) : At N H (.ref p) (.sq ds)
/-- all but what N holds stays -/
structure Keep (N : Addr → Prop) (H H' : Hp) : Prop where
  k : ∀ b o, H b = some o → ¬ N b → H' b = some o
  a : ∀ b, H b ≠ none → H' b ≠ none
def Alc (N : Addr → Prop) (H : Hp) : Prop := ∀ b, N b → H b ≠ none
/-- N and one more -/
def And1 (N : Addr → Prop) (D : Addr) : Addr → Prop := fun b => N b ∨ b = D
def Emp : Addr → Prop := fun _ => False
theorem Keep.refl {N : Addr → Prop} {H : Hp} : Keep N H H := ⟨fun _ _ h _ => h, fun _ h => h⟩
theorem Keep.trans {N : Addr → Prop} {H H1 H2 : Hp} (x : Keep N H H1) (y : Keep N H1 H2) : Keep N H H2 := ⟨fun b o h n => y.k b o (x.k b o h n) n, fun b h => y.a b (x.a b h)⟩
theorem Same.keep {N : Addr → Prop} {H H' : Hp} (s : Same H H') : Keep N H H' := ⟨fun b o h _ => s b o h, fun b h => by
  cases e : H b with
  | none => exact absurd e h
  | some o => rw [s b o e]; intro z; cases z⟩
theorem Keep.same {H H' : Hp} (k : Keep Emp H H') : Same H H' := fun b o h => k.k b o h id
theorem Keep.more {N M : Addr → Prop} {H H' : Hp} (k : Keep N H H') (s : ∀ b, N b → M b) : Keep M H H' := ⟨fun b o h n => k.k b o h fun z => n (s b z), k.a⟩
theorem Keep.upd {N : Addr → Prop} {H : Hp} {D : Addr} {o : HO} (h : N D) : Keep N H (L2.upd H D o) := ⟨fun b o' e n => by
  rw [upd_ne fun z => n (by rw [z]; exact h)]
  exact e, fun b e => by
  by_cases z : b = D
  · rw [z, upd_same]; intro y; cases y
  · rw [upd_ne z]; exact e⟩
theorem Keep.new {N : Addr → Prop} {H : Hp} {D : Addr} {o : HO} (h : H D = none) : Keep N H (L2.upd H D o) := Same.keep (Same.upd h)
theorem Keep.but {N : Addr → Prop} {H H' : Hp} {a : Addr} (b : But a H H') (n : N a) (s : H' a ≠ none) : Keep N H H' := ⟨fun c o h m => b c o h fun z => m (by rw [z]; exact n), fun c h => by
  by_cases e : c = a
  · rw [e]; exact s
  · cases q : H c with
    | none => exact absurd q h
    | some o => rw [b c o q e]; intro y; cases y⟩
theorem Keep.free {N : Addr → Prop} {H H' : Hp} {r : Addr} (k : Keep N H H') (h : H' r = none) : H r = none := by
  cases e : H r with
  | none => rfl
  | some o => exact absurd h (k.a r (by rw [e]; intro z; cases z))
theorem Alc.keep {N M : Addr → Prop} {H H' : Hp} (a : Alc N H) (k : Keep M H H') : Alc N H' := fun b n => k.a b (a b n)
theorem Alc.fresh {N : Addr → Prop} {H : Hp} {r : Addr} (a : Alc N H) (h : H r = none) : ¬ N r := fun n => a r n h
theorem Alc.and {N : Addr → Prop} {H : Hp} {D : Addr} (a : Alc N H) (h : H D ≠ none) : Alc (And1 N D) H := fun b n => by
  rcases n with n | n
  · exact a b n
  · rw [n]; exact h
theorem alc_emp {H : Hp} : Alc Emp H := fun _ h => h.elim
section
variable {N M : Addr → Prop} {H H' : Hp}
theorem At.keep {v : V} {d : Dat} (h : At N H v d) (k : Keep N H H') : At N H' v d := by
  induction h with
  | non => exact .non
  | bl b => exact .bl b
  | int i => exact .int i
  | str s => exact .str s
  | tup h n l e ih => exact .tup (k.k _ _ h n) n l ih
  | lst h n l e ih => exact .lst (k.k _ _ h n) n l ih
  | sq h n l e ih => exact .sq (h.imp (fun h => k.k _ _ h n) fun h => k.k _ _ h n) n l ih
theorem At.same {v : V} {d : Dat} (h : At N H v d) (s : Same H H') : At N H' v d := h.keep (Same.keep s)
/-- a set that holds no more of what is there -/
theorem At.grow {v : V} {d : Dat} (h : At N H v d) (s : ∀ b, M b → N b ∨ H b = none) : At M H v d := by
  induction h with
  | non => exact .non
  | bl b => exact .bl b
  | int i => exact .int i
  | str s => exact .str s
  | tup h n l e ih =>
    refine .tup h (fun z => ?_) l ih
    rcases s _ z with y | y
    · exact n y
    · rw [y] at h; cases h
  | lst h n l e ih =>
    refine .lst h (fun z => ?_) l ih
    rcases s _ z with y | y
    · exact n y
    · rw [y] at h; cases h
  | sq h n l e ih =>
    refine .sq h (fun z => ?_) l ih
    rcases s _ z with y | y
    · exact n y
    · rw [y] at h; rcases h with h | h <;> cases h
theorem At.less {v : V} {d : Dat} (h : At N H v d) (s : ∀ b, M b → N b) : At M H v d := h.grow fun b z => .inl (s b z)
/-- with a new list in the set -/
theorem At.and {v : V} {d : Dat} {D : Addr} (h : At N H v d) (f : H D = none) : At (And1 N D) H v d := h.grow fun b z => z.imp id fun e => by rw [e]; exact f
theorem At.drop {v : V} {d : Dat} {D : Addr} (h : At (And1 N D) H v d) : At N H v d := h.less fun _ z => .inl z
theorem At.notin {p : Addr} {d : Dat} (h : At N H (.ref p) d) : ¬ N p := by
  cases h <;> assumption
theorem At.there {p : Addr} {d : Dat} (h : At N H (.ref p) d) : H p ≠ none := by
  cases h with
  | tup h n l e => rw [h]; intro z; cases z
  | lst h n l e => rw [h]; intro z; cases z
  | sq h n l e => rcases h with h | h <;> (rw [h]; intro z; cases z)
theorem At.sqE {p : Addr} {ds : List Dat} (h : At N H (.ref p) (.sq ds)) : ∃ xs, (H p = some (.tup xs) ∨ H p = some (.lst xs)) ∧ xs.length = ds.length ∧ ∀ (i : Nat) (x : V) (d : Dat), xs[i]? = some x → ds[i]? = some d → At N H x d := by
  cases h with
  | sq h n l e => exact ⟨_, h, l, e⟩
theorem At.sqV {v : V} {ds : List Dat} (h : At N H v (.sq ds)) : ∃ p, v = .ref p := by cases h; exact ⟨_, rfl⟩
/-- a list or a tuple is one of either kind -/
inductive Le : Dat → Dat → Prop where
  | refl (d : Dat) : Le d d
  | tupS {ds es : List Dat} (l : ds.length = es.length) (h : ∀ (i : Nat) (d e : Dat), ds[i]? = some d → es[i]? = some e → Le d e) : Le (.tup ds) (.sq es)
  | lstS {ds es : List Dat} (l : ds.length = es.length) (h : ∀ (i : Nat) (d e : Dat), ds[i]? = some d → es[i]? = some e → Le d e) : Le (.lst ds) (.sq es)
theorem At.weak {d e : Dat} (le : Le d e) : ∀ {v : V}, At N H v d → At N H v e := by
  induction le with
  | refl d => exact fun h => h
  | tupS l h ih =>
    intro v hv
    obtain ⟨p, rfl⟩ := (by cases hv; exact ⟨_, rfl⟩ : ∃ p, v = .ref p)
    cases hv with
    | tup h1 n l1 e1 =>
      refine .sq (.inl h1) n (by rw [l1, l]) fun i x d hx hd => ?_
      have lt : i < _ := (List.getElem?_eq_some_iff.mp hd).1
      have hd2 := List.getElem?_eq_getElem (l := _) (show i < _ from by rw [← l] at lt; exact lt)
      exact ih i _ d hd2 hd (e1 i x _ hx hd2)
  | lstS l h ih =>
    intro v hv
    obtain ⟨p, rfl⟩ := (by cases hv; exact ⟨_, rfl⟩ : ∃ p, v = .ref p)
    cases hv with
    | lst h1 n l1 e1 =>
      refine .sq (.inr h1) n (by rw [l1, l]) fun i x d hx hd => ?_
      have lt : i < _ := (List.getElem?_eq_some_iff.mp hd).1
      have hd2 := List.getElem?_eq_getElem (l := _) (show i < _ from by rw [← l] at lt; exact lt)
      exact ih i _ d hd2 hd (e1 i x _ hx hd2)
theorem At.tupE {p : Addr} {ds : List Dat} (h : At N H (.ref p) (.tup ds)) : ∃ xs, H p = some (.tup xs) ∧ xs.length = ds.length ∧ ∀ (i : Nat) (x : V) (d : Dat), xs[i]? = some x → ds[i]? = some d → At N H x d := by
  cases h with
  | tup h n l e => exact ⟨_, h, l, e⟩
theorem At.lstE {p : Addr} {ds : List Dat} (h : At N H (.ref p) (.lst ds)) : ∃ xs, H p = some (.lst xs) ∧ xs.length = ds.length ∧ ∀ (i : Nat) (x : V) (d : Dat), xs[i]? = some x → ds[i]? = some d → At N H x d := by
  cases h with
  | lst h n l e => exact ⟨_, h, l, e⟩
theorem At.tupV {v : V} {ds : List Dat} (h : At N H v (.tup ds)) : ∃ p, v = .ref p := by cases h; exact ⟨_, rfl⟩
theorem At.lstV {v : V} {ds : List Dat} (h : At N H v (.lst ds)) : ∃ p, v = .ref p := by cases h; exact ⟨_, rfl⟩
theorem At.intV {v : V} {i : Int} (h : At N H v (.int i)) : v = .int i := by cases h; rfl
theorem At.strV {v : V} {s : Str} (h : At N H v (.str s)) : v = .str s := by cases h; rfl
/-- the items, by a function -/
def rng (n : Nat) (f : Nat → Dat) : List Dat := (List.range n).map f
theorem rng_len {n : Nat} {f : Nat → Dat} : (rng n f).length = n := by unfold rng; rw [List.length_map, List.length_range]
theorem rng_get {n i : Nat} {f : Nat → Dat} (h : i < n) : (rng n f)[i]? = some (f i) := by
  unfold rng
  rw [List.getElem?_map, List.getElem?_range h]
  rfl
theorem rng_lt {n i : Nat} {f : Nat → Dat} {d : Dat} (h : (rng n f)[i]? = some d) : i < n ∧ d = f i := by
  have hi : i < n := by
    have := (List.getElem?_eq_some_iff.mp h).1
    rw [rng_len] at this
    exact this
  rw [rng_get hi] at h
  exact ⟨hi, (Option.some.inj h).symm⟩
theorem rng_succ {n : Nat} {f : Nat → Dat} : rng (n + 1) f = rng n f ++ [f n] := by
  unfold rng
  rw [List.range_succ, List.map_append]
  rfl
theorem rng_ext {n : Nat} {f g : Nat → Dat} (h : ∀ i, i < n → f i = g i) : rng n f = rng n g := List.map_congr_left fun i hi => h i (List.mem_range.mp hi)
theorem At.tupR {p : Addr} {n : Nat} {f : Nat → Dat} (h : At N H (.ref p) (.tup (rng n f))) : ∃ xs, H p = some (.tup xs) ∧ xs.length = n ∧ ∀ i, i < n → ∃ x, xs[i]? = some x ∧ At N H x (f i) := by
  obtain ⟨xs, hp, l, e⟩ := h.tupE
  rw [rng_len] at l
  refine ⟨xs, hp, l, fun i hi => ?_⟩
  have hx : xs[i]? = some (xs[i]'(by omega)) := List.getElem?_eq_getElem _
  exact ⟨_, hx, e i _ _ hx (rng_get hi)⟩
theorem At.lstR {p : Addr} {n : Nat} {f : Nat → Dat} (h : At N H (.ref p) (.lst (rng n f))) : ∃ xs, H p = some (.lst xs) ∧ xs.length = n ∧ ∀ i, i < n → ∃ x, xs[i]? = some x ∧ At N H x (f i) := by
  obtain ⟨xs, hp, l, e⟩ := h.lstE
  rw [rng_len] at l
  refine ⟨xs, hp, l, fun i hi => ?_⟩
  have hx : xs[i]? = some (xs[i]'(by omega)) := List.getElem?_eq_getElem _
  exact ⟨_, hx, e i _ _ hx (rng_get hi)⟩
theorem At.sqR {p : Addr} {n : Nat} {f : Nat → Dat} (h : At N H (.ref p) (.sq (rng n f))) : ∃ xs, (H p = some (.tup xs) ∨ H p = some (.lst xs)) ∧ xs.length = n ∧ ∀ i, i < n → ∃ x, xs[i]? = some x ∧ At N H x (f i) := by
  obtain ⟨xs, hp, l, e⟩ := h.sqE
  rw [rng_len] at l
  refine ⟨xs, hp, l, fun i hi => ?_⟩
  have hx : xs[i]? = some (xs[i]'(by omega)) := List.getElem?_eq_getElem _
  exact ⟨_, hx, e i _ _ hx (rng_get hi)⟩
theorem Le.tupR {n : Nat} {f g : Nat → Dat} (h : ∀ i, i < n → Le (f i) (g i)) : Le (.tup (rng n f)) (.sq (rng n g)) := .tupS (by rw [rng_len, rng_len]) fun i d e hd he => by
  obtain ⟨hi, rfl⟩ := rng_lt hd
  obtain ⟨_, rfl⟩ := rng_lt he
  exact h i hi
theorem Le.lstR {n : Nat} {f g : Nat → Dat} (h : ∀ i, i < n → Le (f i) (g i)) : Le (.lst (rng n f)) (.sq (rng n g)) := .lstS (by rw [rng_len, rng_len]) fun i d e hd he => by
  obtain ⟨hi, rfl⟩ := rng_lt hd
  obtain ⟨_, rfl⟩ := rng_lt he
  exact h i hi
/-- a new tuple of what is there -/
theorem At.newT {xs : List V} {ds : List Dat} {r : Addr} (a : Alc N H) (f : H r = none) (l : xs.length = ds.length) (e : ∀ (i : Nat) (x : V) (d : Dat), xs[i]? = some x → ds[i]? = some d → At N H x d) : At N (upd H r (.tup xs)) (.ref r) (.tup ds) :=
  .tup upd_same (a.fresh f) l fun i x d hx hd => (e i x d hx hd).keep (Keep.new f)
theorem At.newL {xs : List V} {ds : List Dat} {r : Addr} (a : Alc N H) (f : H r = none) (l : xs.length = ds.length) (e : ∀ (i : Nat) (x : V) (d : Dat), xs[i]? = some x → ds[i]? = some d → At N H x d) : At N (upd H r (.lst xs)) (.ref r) (.lst ds) :=
  .lst upd_same (a.fresh f) l fun i x d hx hd => (e i x d hx hd).keep (Keep.new f)
theorem items0 : ∀ (i : Nat) (x : V) (d : Dat), ([] : List V)[i]? = some x → ([] : List Dat)[i]? = some d → At N H x d := fun i x d h _ => by simp at h
theorem items1 {x : V} {d : Dat} (h : At N H x d) : ∀ (i : Nat) (y : V) (e : Dat), [x][i]? = some y → [d][i]? = some e → At N H y e := fun i y e h1 h2 => by
  match i with
  | 0 => cases h1; cases h2; exact h
  | i + 1 => simp at h1
theorem itemsC {x : V} {d : Dat} {xs : List V} {ds : List Dat} (h : At N H x d) (t : ∀ (i : Nat) (y : V) (e : Dat), xs[i]? = some y → ds[i]? = some e → At N H y e) : ∀ (i : Nat) (y : V) (e : Dat), (x :: xs)[i]? = some y → (d :: ds)[i]? = some e → At N H y e := fun i y e h1 h2 => by
  match i with
  | 0 => cases h1; cases h2; exact h
  | i + 1 => exact t i y e h1 h2
/-! ### a list that a comprehension or a loop builds -/
structure Bld (M N : Addr → Prop) (H0 : Hp) (D : Addr) (ds : List Dat) (H2 : Hp) : Prop where
  xs : ∃ xs, H2 D = some (.lst xs) ∧ xs.length = ds.length ∧ ∀ (i : Nat) (x : V) (d : Dat), xs[i]? = some x → ds[i]? = some d → At (And1 N D) H2 x d
  k : Keep M H0 H2
theorem bld0 {D : Addr} (f : H D = none) : Bld M N H D [] (upd H D (.lst [])) := ⟨⟨[], upd_same, rfl, fun i x d h => by simp at h⟩, Keep.new f⟩
theorem Bld.step {H0 H2 H3 : Hp} {D : Addr} {ds : List Dat} {x : V} {d : Dat} (B : Bld M N H0 D ds H2) (f : H0 D = none) (k : Keep M H2 H3) (s : ∀ b, M b → N b) (nD : ¬ M D) (h : At (And1 N D) H3 x d) :
    ∃ acc, H3 D = some (.lst acc) ∧ acc.length = ds.length ∧ Bld M N H0 D (ds ++ [d]) (upd H3 D (.lst (acc ++ [x]))) := by
  obtain ⟨xs, hD, l, e⟩ := B.xs
  have ku : Keep (And1 N D) H3 (upd H3 D (.lst (xs ++ [x]))) := Keep.upd (.inr rfl)
  refine ⟨xs, k.k _ _ hD nD, l, ⟨⟨xs ++ [x], upd_same, by rw [List.length_append, List.length_append, l]; rfl, fun i y z h1 h2 => ?_⟩, ⟨fun b o hb n => ?_, fun b hb => ?_⟩⟩⟩
  · by_cases lt : i < xs.length
    · rw [List.getElem?_append_left lt] at h1
      rw [List.getElem?_append_left (by omega)] at h2
      exact ((e i y z h1 h2).keep (k.more fun b z => .inl (s b z))).keep ku
    · rw [List.getElem?_append_right (by omega)] at h1
      rw [List.getElem?_append_right (by omega), ← l] at h2
      exact (items1 h _ _ _ h1 h2).keep ku
  · rw [upd_ne (ne_of_none hb f)]
    exact k.k _ _ (B.k.k _ _ hb n) n
  · exact (Keep.upd (N := And1 N D) (.inr rfl)).a b (k.a b (B.k.a b hb))
theorem Bld.done {H0 H2 : Hp} {D : Addr} {ds : List Dat} (B : Bld M N H0 D ds H2) (n : ¬ N D) : At N H2 (.ref D) (.lst ds) := by
  obtain ⟨xs, hD, l, e⟩ := B.xs
  exact .lst hD n l fun i x d h1 h2 => (e i x d h1 h2).drop
/-- what was there before stays as it is while the list is built -/
theorem Bld.old {H0 H2 : Hp} {D : Addr} {ds : List Dat} {v : V} {d : Dat} (B : Bld M N H0 D ds H2) (f : H0 D = none) (s : ∀ b, M b → N b) (h : At N H0 v d) : At (And1 N D) H2 v d := (h.and f).keep (B.k.more fun b z => .inl (s b z))
theorem Bld.alc {H0 H2 : Hp} {D : Addr} {ds : List Dat} (B : Bld M N H0 D ds H2) (a : Alc N H0) : Alc (And1 N D) H2 := (a.keep B.k).and (by obtain ⟨xs, hD, _⟩ := B.xs; rw [hD]; intro z; cases z)
end
/-! ### rows, tables, pairs -/
def intL (w : Nat) (z : Nat → Int) : Dat := .lst (rng w fun j => .int (z j))
theorem pe_fldK {X : Cx} {K : PySem.W.Frag} (hK : X.K = K) {e : Expr} {f : Str} {pos : Pos} {ta : TE} (he : PE X e ta) (hb : attributeBase e f X.env (eval e X.env) = eval e X.env) : PE X (.Attribute e f pos) (tFld K ta f) := by
  subst hK
  exact pe_fld he hb
theorem pi_listK {X : Cx} {tg : Expr} {K : PySem.W.Frag} (hK : X.K = K) {l : Expr} {tl : TE} (hl : PE X l tl) : PI X tg l (iList K tl) := by
  subst hK
  exact pi_list hl
theorem pi_tupK {X : Cx} {tg : Expr} {K : PySem.W.Frag} (hK : X.K = K) {l : Expr} {tl : TE} (hl : PE X l tl) : PI X tg l (iTup K tl) := by
  subst hK
  exact pi_tup hl
theorem itF {b : Bool} {A B : Prop} (h : b = false) (x : B) : if b = true then A else B := by
  subst h
  exact iteF x
theorem itT {b : Bool} {A B : Prop} (h : b = true) (x : A) : if b = true then A else B := by
  subst h
  exact iteT x
theorem ixN_at {n j : Nat} {z : Int} (e : z = (j : Int)) (h : j < n) : ixN n z = some j := by
  subst e
  unfold ixN
  rw [if_pos (by omega), if_pos (by omega)]
  rfl
theorem small_of {n m : Nat} (h : n = m) (l : m ≤ 1000) : n < sizeLine := small1000 (by omega)
end RX

set_option Elab.async false
set_option linter.all false
set_option maxRecDepth 100000
/-! zip of two, each a list or a tuple -/
namespace ZM
open PySem PySem.Spec PyProof.Rows L2
/-- a tuple (true) or a list -/
def SqB (k : Bool) (K : PySem.W.Frag) (H : Hp) (a : Addr) (xs : List V) : Prop := (k = true ∧ SqT K H a xs) ∨ (k = false ∧ SqL K H a xs)
def IterB (k : Bool) (h : Heap) (it a : Addr) (i : Nat) : Prop := (k = true ∧ h.IsTupleIter it a i) ∨ (k = false ∧ h.IsListIter it a i)
def IsB (k : Bool) (h : Heap) (a : Addr) (its : Array Value) : Prop := (k = true ∧ h.IsTuple a its) ∨ (k = false ∧ h.IsList a its)
theorem IterB.at {k : Bool} {h h' : Heap} {it a : Addr} {i : Nat} (x : IterB k h it a i) (e : ∀ o, h.get? it = some o → h'.get? it = some o) : IterB k h' it a i := x.imp (fun ⟨u, y⟩ => ⟨u, y.at e⟩) fun ⟨u, y⟩ => ⟨u, y.at e⟩
theorem IterB.there {k : Bool} {h : Heap} {it a : Addr} {i : Nat} (x : IterB k h it a i) : ∃ o fs, h.get? it = some o ∧ o.data = .fields fs := by
  rcases x with ⟨_, o, e, _, d⟩ | ⟨_, o, e, _, d⟩ <;> exact ⟨o, _, e, d⟩
theorem drawsB {prog : Program} {w : World} {A : Around} (hh : A.handled = none) (k : Bool) (it l : Addr) (hne : l ≠ it) (items : Array Value) :
    Draws prog w A it [it, l] items.size (fun i v => items[i]? = some v) (fun i h => IterB k h it l i ∧ IsB k h l items) := by
  cases k with
  | true =>
    have D := Draws.tuple (prog := prog) (w := w) hh it l hne items
    have e : (fun (i : Nat) (h : Heap) => h.IsTupleIter it l i ∧ h.IsTuple l items) = fun i h => IterB true h it l i ∧ IsB true h l items := by
      funext i h
      simp [IterB, IsB]
    rw [← e]
    exact D
  | false =>
    have D := Draws.list (prog := prog) (w := w) hh it l hne items
    have e : (fun (i : Nat) (h : Heap) => h.IsListIter it l i ∧ h.IsList l items) = fun i h => IterB false h it l i ∧ IsB false h l items := by
      funext i h
      simp [IterB, IsB]
    rw [← e]
    exact D
/-- at its end, or not yet -/
theorem drawsE {prog : Program} {w : World} {A : Around} (hh : A.handled = none) (k : Bool) (it l : Addr) (hne : l ≠ it) (items : Array Value) (i : Nat) {h : Heap} (h1 : IterB k h it l i) (h2 : IsB k h l items) :
    ∃ (n : Nat) (St : Nat → Heap → Prop), Draws prog w A it [it, l] n (fun _ _ => True) St ∧ St i h ∧ i ≤ n ∧ (items.size ≤ i → i = n) := by
  have D := drawsB (prog := prog) (w := w) hh k it l hne items
  by_cases le : items.size ≤ i
  · refine ⟨i, fun j h => j = i ∧ IterB k h it l i ∧ IsB k h l items, ?_, ⟨rfl, h1, h2⟩, Nat.le_refl _, fun _ => rfl⟩
    refine { live := fun j h st => D.live i h st.2, frame := fun j h h' st hk => ⟨st.1, D.frame i h h' st.2 hk⟩, item := fun j s Q E hi st hQ => absurd hi (by rw [st.1]; exact Nat.lt_irrefl _), done := fun s Q E st hE => ?_ }
    have no : items[i]? = none := Array.getElem?_eq_none le
    obtain ⟨_, a, b⟩ := st
    rcases a with ⟨rfl, a⟩ | ⟨rfl, a⟩
    · have b : s.heap.IsTuple l items := by rcases b with ⟨_, b⟩ | ⟨z, _⟩; exact b; cases z
      exact PySem.wpAny_nextOf_tuple_end hh a b no hE
    · have b : s.heap.IsList l items := by rcases b with ⟨z, _⟩ | ⟨_, b⟩; cases z; exact b
      exact PySem.wpAny_nextOf_list_end hh a b no hE
  · refine ⟨items.size, _, ⟨D.live, D.frame, fun j s Q E hi st hQ => D.item j s Q E hi st fun x h' tk _ => hQ x h' tk trivial, D.done⟩, ⟨h1, h2⟩, by omega, fun z => absurd z le⟩
theorem beginsB (k : Bool) (l : Addr) (items : Array Value) : ∃ o, Begins (.ref l) o (fun h => IsB k h l items) ∧ ∀ h it, h.get? it = some o → IterB k h it l 0 := by
  cases k with
  | true =>
    refine ⟨{ cls := .type "tuple_iterator", data := .fields #[.ref l, .int 0 0] }, ?_, fun h it e => .inl ⟨rfl, _, e, rfl, rfl⟩⟩
    have B := begins_tuple l items
    have e : (fun (h : Heap) => h.IsTuple l items) = fun h => IsB true h l items := by
      funext h
      simp [IsB]
    rw [← e]
    exact B
  | false =>
    refine ⟨{ cls := .type "list_iterator", data := .fields #[.ref l, .int 0 0] }, ?_, fun h it e => .inr ⟨rfl, _, e, rfl, rfl⟩⟩
    have B := begins_list l items
    have e : (fun (h : Heap) => h.IsList l items) = fun h => IsB false h l items := by
      funext h
      simp [IsB]
    rw [← e]
    exact B
section
variable {X : Cx} {pins : List (Addr × Obj)} {σ : L2.St} {H : Hp} {s : Shared}
theorem sqB_its {a : Addr} {xs : List V} {k : Bool} (I : Inv X pins σ H s) (h : SqB k X.K H a xs) : ∃ its : List Value, Vals xs its ∧ IsB k s.heap a its.toArray ∧ a < s.heap.objs.size := by
  rcases h with ⟨rfl, h⟩ | ⟨rfl, h⟩
  · obtain ⟨its, r, p, _⟩ := I.tuple h
    obtain ⟨o, ho, _⟩ := id p
    exact ⟨its, r, .inl ⟨rfl, p⟩, Heap.lt_size ho⟩
  · obtain ⟨its, r, p, _⟩ := I.list h
    exact ⟨its, r, .inr ⟨rfl, p.isList⟩, p.lt⟩
theorem sqB_inj {a : Addr} {xs ys : List V} {k : Bool} (I : Inv X pins σ H s) (h : SqB k X.K H a xs) (h' : SqB k X.K H a ys) : xs = ys := by
  rcases h with ⟨rfl, h⟩ | ⟨rfl, h⟩
  · rcases h' with ⟨_, h'⟩ | ⟨z, _⟩
    · exact I.tuple_inj h h'
    · cases z
  · rcases h' with ⟨z, _⟩ | ⟨_, h'⟩
    · cases z
    · exact I.list_inj h h'
end
/-- the two at a and b as they stand at each turn, the items in new pairs -/
def ItzB (k l : Bool) (K : PySem.W.Frag) (a b : Addr) : It :=
  ⟨fun i H => ∃ (xs ys : List V) (x y : V), SqB k K H a xs ∧ SqB l K H b ys ∧ xs[i]? = some x ∧ ys[i]? = some y,
    fun i H v H' => ∃ T x y, v = .ref T ∧ H T = none ∧ H' = upd H T (.tup [x, y]) ∧ (∀ xs, SqB k K H a xs → xs[i]? = some x) ∧ ∀ ys, SqB l K H b ys → ys[i]? = some y,
    fun i H => ∃ xs ys : List V, SqB k K H a xs ∧ SqB l K H b ys ∧ (xs.length ≤ i ∨ ys.length ≤ i)⟩
theorem sepB {z TI TO i1 i2 a b : Addr} (D : ZipApart z TI TO i1 i2 a b) : ZipSep2 z TI TO i1 i2 [i1, a] [i2, b] where
  TIz := D.TIz
  TOz := D.TOz
  TITO := D.TITO
  TIi1 := D.TIi1
  mem1 := by simp
  zf1 := by simp; exact ⟨D.i1z.symm, D.l1z.symm⟩
  Tf1 := by simp; exact ⟨D.TOi1, D.l1TO.symm⟩
  TIi2 := D.TIi2
  mem2 := by simp
  zf2 := by simp; exact ⟨D.i2z.symm, D.l2z.symm⟩
  Tf2 := by simp; exact ⟨D.TOi2, D.l2TO.symm⟩
  sep1_2 := by simp; exact ⟨D.i12, D.l2i1.symm⟩
  sep2_1 := by simp; exact ⟨D.i12.symm, D.l1i2.symm⟩
theorem turn_zipB {P : Program} {w : World} {K : PySem.W.Frag} {elts : List Expr} {kk : Nat} {tpos : Pos} {k l : Bool} {a b z TI TO i1 i2 : Addr} (D : ZipApart z TI TO i1 i2 a b) :
    Turn P w K (.Tuple elts kk tpos) (ItzB k l K a b) [z, TI, TO, i1, i2] z (fun i h => IsZip h z TI TO .none ∧ IsPair h TI (.ref i1) (.ref i2) ∧ (∃ x y, IsPair h TO x y) ∧ IterB k h i1 a i ∧ IterB l h i2 b i) where
  mem := by simp
  obj := fun i h st c hc => by
    obtain ⟨hz, hTI, ⟨x, y, hTO⟩, j1, j2⟩ := st
    obtain ⟨o1, f1, e1, d1⟩ := j1.there
    obtain ⟨o2, f2, e2, d2⟩ := j2.there
    have e' : c = z ∨ c = TI ∨ c = TO ∨ c = i1 ∨ c = i2 := by simpa using hc
    rcases e' with q | q | q | q | q
    · rw [q]; exact ⟨_, hz, fun v q => nomatch q⟩
    · rw [q]; exact ⟨_, hTI, fun v q => nomatch q⟩
    · rw [q]; exact ⟨_, hTO, fun v q => nomatch q⟩
    · rw [q]; exact ⟨o1, e1, fun v q => by rw [d1] at q; cases q⟩
    · rw [q]; exact ⟨o2, e2, fun v q => by rw [d2] at q; cases q⟩
  keep := fun i h h' st k => by
    obtain ⟨hz, hTI, ⟨x, y, hTO⟩, h1, h2⟩ := st
    exact ⟨k z (by simp) _ hz, k TI (by simp) _ hTI, ⟨x, y, k TO (by simp) _ hTO⟩, h1.at fun o q => k i1 (by simp) o q, h2.at fun o q => k i2 (by simp) o q⟩
  item := by
    intro X hP hw hK hc i pins s σ H E I hf st hg
    subst hP hw hK
    obtain ⟨hz, hTI, ⟨x0, y0, hTO⟩, h1, h2⟩ := st
    obtain ⟨xs, ys, x, y, hqx, hqy, hx, hy⟩ := hg
    obtain ⟨its, rv, p, _⟩ := sqB_its I hqx
    obtain ⟨its2, rv2, p2, _⟩ := sqB_its I hqy
    obtain ⟨u, hu, ru⟩ := rv.get hx
    obtain ⟨u2, hu2, ru2⟩ := rv2.get hy
    have hzl : z < s.heap.objs.size := Heap.lt_size hz
    have hnd : X.A.in1.handled = none := I.ok.hd hc
    have lt1 : i < its.toArray.size := by rw [List.size_toArray]; exact (List.getElem?_eq_some_iff.mp hu).1
    have lt2 : i < its2.toArray.size := by rw [List.size_toArray]; exact (List.getElem?_eq_some_iff.mp hu2).1
    refine wpAny_pyNext_zipD2_item (sepB D) (drawsB hnd k i1 a D.l1i1 its.toArray) (drawsB hnd l i2 b D.l2i2 its2.toArray) hz hTI hTO ⟨h1, p⟩ ⟨h2, p2⟩ lt1 lt2 fun v1 v2 h' tk pv1 pv2 z' TO' g1 g2 hT hsz hk => ?_
    have e1 : v1 = u := by
      have pv1 : its.toArray[i]? = some v1 := pv1
      rw [List.getElem?_toArray, hu] at pv1
      exact (Option.some.inj pv1).symm
    have e2 : v2 = u2 := by
      have pv2 : its2.toArray[i]? = some v2 := pv2
      rw [List.getElem?_toArray, hu2] at pv2
      exact (Option.some.inj pv2).symm
    subst e1 e2
    refine ⟨_, rfl, wpAny_letOwnedTupleGo_zip (s := { s with heap := h', toks := tk }) z' fun h'' z'' sb => ?_⟩
    have hT2 : h''.get? s.heap.objs.size = some { cls := .type "tuple", data := .seq #[v1, v2] } := (sb.2 _ (Nat.ne_of_gt hzl)).trans hT
    have new : ObjOk X.prog X.w (upd H s.heap.objs.size (.tup [x, y])) h'' s.heap.objs.size (.tup [x, y]) :=
      ⟨by show 2 ≤ sizeLine; decide, [v1, v2], .cons ru (.cons ru2 .nil), ⟨_, hT2, rfl, _, rfl⟩⟩
    have I1 : Inv X pins σ (upd H s.heap.objs.size (.tup [x, y])) { s with heap := h'', toks := tk } :=
      I.turnedNew (t' := tk) (ch := [z, TI, TO, i1, i2]) (fun c o hb q => (sb.2 c (fun q' => hb (by simp [q']))).trans (hk c o (fun q' => hb (by simp [q'])) (fun q' => hb (by simp [q'])) (fun q' => hb (by simp [q'])) (fun q' => hb (by simp [q'])) q)) hf (Nat.le_refl _) new
    refine ⟨.ref s.heap.objs.size, _, I1, rfl, ⟨_, x, y, rfl, I.hok.fresh (Nat.le_refl _), rfl, fun l hl => by rw [sqB_inj I hl hqx]; exact hx, fun l hl => by rw [sqB_inj I hl hqy]; exact hy⟩, ⟨z'', ?_, ⟨v1, v2, ?_⟩, ?_, ?_⟩, fun c hcm => ?_⟩
    · exact (sb.2 _ D.TIz).trans (hk _ _ D.TIz D.TITO D.TIi1 D.TIi2 hTI)
    · exact (sb.2 _ D.TOz).trans TO'
    · exact g1.1.at fun o q => (sb.2 _ D.i1z).trans q
    · exact g2.1.at fun o q => (sb.2 _ D.i2z).trans q
    · have hlt : c < s.heap.objs.size := by
        have e' : c = z ∨ c = TI ∨ c = TO ∨ c = i1 ∨ c = i2 := by simpa using hcm
        rcases e' with q | q | q | q | q
        · rw [q]; exact hzl
        · rw [q]; exact Heap.lt_size hTI
        · rw [q]; exact Heap.lt_size hTO
        · rw [q]; obtain ⟨_, _, e1, _⟩ := h1.there; exact Heap.lt_size e1
        · rw [q]; obtain ⟨_, _, e2, _⟩ := h2.there; exact Heap.lt_size e2
      rw [upd_ne (Nat.ne_of_lt hlt)]
      exact (hf c hcm).1
  done := by
    intro X hP hw hK hc i pins s σ H E I hf st hg
    subst hP hw hK
    obtain ⟨hz, hTI, ⟨x0, y0, hTO⟩, h1, h2⟩ := st
    obtain ⟨xs, ys, hqx, hqy, hend⟩ := hg
    obtain ⟨its, rv, p, _⟩ := sqB_its I hqx
    obtain ⟨its2, rv2, p2, _⟩ := sqB_its I hqy
    have l1 := rv.length
    have l2 := rv2.length
    have hnd : X.A.in1.handled = none := I.ok.hd hc
    obtain ⟨n1, S1, D1, t1, le1, en1⟩ := drawsE (prog := X.prog) (w := X.w) hnd k i1 a D.l1i1 its.toArray i h1 p
    obtain ⟨n2, S2, D2, t2, le2, en2⟩ := drawsE (prog := X.prog) (w := X.w) hnd l i2 b D.l2i2 its2.toArray i h2 p2
    have he : i = n1 ∨ i = n2 := by
      rcases hend with q | q
      · exact .inl (en1 (by rw [List.size_toArray]; omega))
      · exact .inr (en2 (by rw [List.size_toArray]; omega))
    exact wpAny_pyNext_zipD2_end (sepB D) D1 D2 hz hTI hTO t1 t2 le1 le2 he fun h' tk hk => ⟨rfl, I.turnedL (t' := tk) (ch := [z, TI, TO, i1, i2]) (fun c o hb q =>
      hk c o (fun q' => hb (by simp [q'])) (fun q' => hb (by simp [q'])) (fun q' => hb (by simp [q'])) (fun q' => hb (by simp [q'])) q) hf⟩
  self := fun A i s Q E st h => wpAny_pyIter_zip st.1 h
def iZipM (K : PySem.W.Frag) (ta : TA) : TI := fun σ H R => ta σ H fun vs H1 => ∃ k l a b xs ys, vs = [.ref a, .ref b] ∧ SqB k K H1 a xs ∧ SqB l K H1 b ys ∧ R (ItzB k l K a b) H1
theorem pi_zipM {X : Cx} {e e2 : Expr} {ta : TA} {p pos tpos : Pos} {elts : List Expr} {kk : Nat} (hg : Gl X "zip") (hm : X.mg "zip" = none) (ha : PA X [e, e2] ta)
    (hs : starEach [e, e2] X.env = (false, eval e X.env) :: starEach [e2] X.env := by rfl) (hpl : (backTo pos (starEach [e2] X.env)).any (·.1) = false := by rfl) :
    PI X (.Tuple elts kk tpos) (.Call (.Name "zip" p) [e, e2] [] pos) (iZipM X.K ta) := by
  refine ⟨fun pins s σ H R I h => ?_⟩
  refine Call_ (ld_blt I hg hm PyProof.Rows.boot_zip (PyProof.Rows.callWith_type1 (thn (ha.run pos pins s σ H _ I h) fun us s1 ⟨vs, H1, I1, r1, q1⟩ => ?_) hs hpl))
  obtain ⟨k, l, a, b, xs, ys, ex, hqx, hqy, q⟩ := q1
  subst ex
  cases r1 with
  | cons r rr =>
    cases rr with
    | cons r' rr =>
      cases rr
      cases r
      cases r'
      obtain ⟨its, rv, p1, la⟩ := sqB_its I1 hqx
      obtain ⟨its2, rv2, p2, lb⟩ := sqB_its I1 hqy
      obtain ⟨o1, B1, j1⟩ := beginsB k a its.toArray
      obtain ⟨o2, B2, j2⟩ := beginsB l b its2.toArray
      refine zip_begins2 B1 B2 p1 p2 fun h' hz hTI hTO g1 g2 hsz hk => wpAny_pyIter_zip hz ?_
      have I2 : Inv X pins σ H1 { s1 with heap := h' } := I1.kept (t' := s1.toks) hk
      refine ⟨s1.heap.objs.size + 4, [s1.heap.objs.size + 4, s1.heap.objs.size + 2, s1.heap.objs.size + 3, s1.heap.objs.size, s1.heap.objs.size + 1], _, _, H1, rfl, I2, turn_zipB (PySem.W.ktu_apart s1.heap.objs.size a b la lb), ⟨hz, hTI, ⟨_, _, hTO⟩, j1 _ _ g1, j2 _ _ g2⟩, fun c hcm => ?_, q⟩
      have e' : c = s1.heap.objs.size + 4 ∨ c = s1.heap.objs.size + 2 ∨ c = s1.heap.objs.size + 3 ∨ c = s1.heap.objs.size ∨ c = s1.heap.objs.size + 1 := by simpa using hcm
      have hle : s1.heap.objs.size ≤ c := by
        rcases e' with z | z | z | z | z
        · rw [z]; exact Nat.le_add_right _ _
        · rw [z]; exact Nat.le_add_right _ _
        · rw [z]; exact Nat.le_add_right _ _
        · rw [z]; exact Nat.le_refl _
        · rw [z]; exact Nat.le_add_right _ _
      exact I1.fpOk hle (I1.hok.fresh hle)
/-- within a comprehension -/
theorem pi_zipMK {X : Cx} {K : PySem.W.Frag} (hK : X.K = K) {e e2 : Expr} {ta : TA} {p pos tpos : Pos} {elts : List Expr} {kk : Nat} (hg : Gl X "zip") (hm : X.mg "zip" = none) (ha : PA X [e, e2] ta)
    (hs : starEach [e, e2] X.env = (false, eval e X.env) :: starEach [e2] X.env := by rfl) (hpl : (backTo pos (starEach [e2] X.env)).any (·.1) = false := by rfl) :
    PI X (.Tuple elts kk tpos) (.Call (.Name "zip" p) [e, e2] [] pos) (iZipM K ta) := by
  subst hK
  exact pi_zipM hg hm ha hs hpl
theorem walk_zipM {K : PySem.W.Frag} {k l : Bool} {a b : Addr} {xs ys : List V} {n : Nat} (hn : n = min xs.length ys.length) : Walk (ItzB k l K a b) n (fun H => SqB k K H a xs ∧ SqB l K H b ys) (YPair (fun i => xs[i]?) (fun i => ys[i]?)) := by
  subst hn
  refine ⟨fun i _ hi q => ?_, fun _ q => ⟨xs, ys, q.1, q.2, by omega⟩, fun i H v H' _ q y => ?_⟩
  · have h1 : i < xs.length := by omega
    have h2 : i < ys.length := by omega
    exact ⟨xs, ys, xs[i], ys[i], q.1, q.2, by simp [h1], by simp [h2]⟩
  · obtain ⟨T, x, z, h1, h2, h3, h4, h5⟩ := y
    exact ⟨T, x, z, h1, h2, h3, h4 xs q.1, h5 ys q.2⟩
end ZM

set_option Elab.async false
set_option linter.all false
set_option maxRecDepth 100000
/-! range(n) as a value, walked later; either of two walks; calls of instances -/
namespace XC
open PySem PySem.Spec PyProof.Rows L2
section
variable {X : Cx} {tg : Expr}
theorem cr_range1 : CallR X (.type "range") (fun vs H Q => ∃ j, vs = [V.int j] ∧ ∀ p, H p = none → Q (.ref p) (upd H p (.rng 0 j))) := by
  intro pins s σ H vs us Q I r h
  obtain ⟨j, rfl, q⟩ := h
  obtain ⟨u1, rfl, t, rfl⟩ := vals1 r
  refine call_range_1 ⟨.ref s.heap.objs.size, upd H s.heap.objs.size (.rng 0 j), I.laid (t' := s.toks + 1 + 1) (fun b o e => Heap.get?_push_of_some _ e) (Nat.le_refl _) ?_, rfl, q _ (I.hok.fresh (Nat.le_refl _))⟩
  exact ⟨_, _, _, Heap.get?_push_size _ rfl⟩
def iRngO (te : TE) : TI := fun σ H R => te σ H fun v H1 => ∃ (a : Addr) (lo hi : Int), v = .ref a ∧ H1 a = some (.rng lo hi) ∧ -(2 ^ 62) ≤ lo ∧ lo < 2 ^ 62 ∧ -(2 ^ 62) ≤ hi ∧ hi < 2 ^ 62 ∧ R (Itr lo (hi - lo).toNat) H1
theorem pi_rng {e : Expr} {te : TE} (he : PE X e te) : PI X tg e (iRngO te) := by
  refine ⟨fun pins s σ H R I h => ?_⟩
  refine thn (he.run pins s σ H _ I h) fun v s1 ⟨x, H1, I1, r1, a, lo, hi, ex, ha, h1, h2, h3, h4, q⟩ => ?_
  subst ex
  obtain rfl : v = Value.ref a := r1
  obtain ⟨t1, t2, t3, ho⟩ := I1.hok a _ ha
  refine wpAny_pyIter_range ho (small_one h1 h2 h3 h4) ?_
  refine ⟨s1.heap.objs.size, [s1.heap.objs.size], _, _, H1, rfl, I1.kept (t' := s1.toks) fun b o e => Heap.get?_push_of_some _ e, turn_range _ lo (hi - lo).toNat, ?_, fun b hb => ?_, q⟩
  · have e1 : lo + ((0 : Nat) : Int) * 1 = lo := by simp
    have e2 : (((hi - lo).toNat : Nat) : Int) - ((0 : Nat) : Int) = Builtin.Range.rangeSize lo hi 1 := by rw [rangeSize_one]; split <;> omega
    show IsRangeIter _ _ (lo + ((0 : Nat) : Int) * 1) ((((hi - lo).toNat : Nat) : Int) - ((0 : Nat) : Int)) 1
    rw [e1, e2]
    exact Heap.get?_push_size _ rfl
  · have e : b = s1.heap.objs.size := by simpa using hb
    subst e
    exact I1.fpOk (Nat.le_refl _) (I1.hok.fresh (Nat.le_refl _))
/-- either walk -/
theorem pi_or {e : Expr} {w1 w2 : TI} (h1 : PI X tg e w1) (h2 : PI X tg e w2) : PI X tg e (fun σ H R => w1 σ H R ∨ w2 σ H R) :=
  ⟨fun pins s σ H R I h => h.elim (h1.run pins s σ H R I) (h2.run pins s σ H R I)⟩
end
end XC

set_option Elab.async false
set_option maxRecDepth 100000
/-! enumerate of a tuple -/
namespace ET
open PySem PySem.Spec PyProof.Rows L2
section
variable {prog : Program} {w : World} {A : Around} {E : Value → Shared → Prop} {s : Shared}
abbrev itO (t : Addr) : Obj := { cls := .type "tuple_iterator", data := .fields #[.ref t, .int 0 0] }
abbrev enO (n : Nat) : Obj := { cls := .type "enumerate", data := .fields #[.none, .bool false, .ref n, rawInt 0, .none, .none] }
set_option maxHeartbeats 1000000 in
theorem newT (t : Addr) (its : Array Value) : Meets (Builtin.«enumerate.__new__» ⟨[.type "enumerate", .ref t], []⟩)
    (fun _ R s => s.heap.IsTuple t its ∧ R (.ok (.ret (.ref (s.heap.push (itO t)).objs.size))) { s with heap := (s.heap.push (itO t)).push (enO s.heap.objs.size) }) :=
  .of_wp fun prog w A R s z => by
    obtain ⟨hp, g, d, tk, os⟩ := s
    obtain ⟨y, z⟩ := z
    have sub := sub_enumerate
    have pi : ∀ {A' : Around} {E Q : Value → Shared → Prop}, Q (.ref hp.objs.size) ⟨hp.push (itO t), g, d, tk, os⟩ → wpAny (model prog w) A' (pyIter (.ref t)) Q E ⟨hp, g, d, tk, os⟩ :=
      fun q => (begins_tuple t its).iter prog w _ _ ⟨hp, g, d, tk, os⟩ _ y q
    wp_walk using pi
    refine wpAny_stack_any fun st =>
      wpAny_pure ?_
    split
    · rename_i cc _ _ _ _ _
      cases (cc == Value.type "enumerate") <;> (wp_walk using pi) <;> exact ⟨_, rfl, z⟩
    · wp_walk using pi
      exact ⟨_, rfl, z⟩
theorem callT {t : Addr} {its : Array Value} {Q : Value → Shared → Prop} (y : s.heap.IsTuple t its)
    (h : ∀ h', IsEnum h' (s.heap.objs.size + 1) s.heap.objs.size 0 .none → h'.IsTupleIter s.heap.objs.size t 0 → (∀ b o, s.heap.get? b = some o → h'.get? b = some o) → Q (.ref (s.heap.objs.size + 1)) { s with heap := h' }) :
    wpAny (model prog w) A (call (.type "enumerate") [.ref t]) Q E s := by
  refine callType_new F.called_enumerate (by decide) (F.typeCall_enumerate_1 _)
    (F.newCall_enumerate_1 _) (fun obj => F.args_object_init_2 obj _) F.entry_enumerate_new (newT t its) ⟨y, ?_⟩
  have sz : (s.heap.push (itO t)).objs.size = s.heap.objs.size + 1 := Heap.size_push ..
  have e1 : ((s.heap.push (itO t)).push (enO s.heap.objs.size)).get? (s.heap.objs.size + 1) = some (enO s.heap.objs.size) := by
    rw [← sz]
    exact Heap.get?_push_size _ rfl
  have e2 := h _ e1 ⟨itO t, Heap.get?_push_of_some _ (Heap.get?_push_size _ rfl), rfl, rfl⟩ fun b o z => Heap.get?_push_of_some _ (Heap.get?_push_of_some _ z)
  show _ ∧ _
  rw [sz]
  exact ⟨⟨_, e1, rfl⟩, e2⟩
end
/-- the tuple at a as it stands at each turn, its place and item in a new pair -/
def IteT (K : PySem.W.Frag) (a : Addr) : It where
  go := fun i H => ∃ (xs : List V) (x : V), SqT K H a xs ∧ xs[i]? = some x
  yld := fun i H v H' => ∃ T x, v = .ref T ∧ H T = none ∧ H' = upd H T (.tup [.int (i : Nat), x]) ∧ ∀ xs, SqT K H a xs → xs[i]? = some x
  stop := fun i H => ∃ xs : List V, SqT K H a xs ∧ xs.length ≤ i
theorem turnT {P : Program} {w : World} {K : PySem.W.Frag} {elts : List Expr} {kk : Nat} {tpos : Pos} (a e it : Addr) :
    Turn P w K (.Tuple elts kk tpos) (IteT K a) [e, it] e (fun i h => (∃ old, IsEnum h e it ((i : Nat) : Int) old) ∧ h.IsTupleIter it a i ∧ e ≠ it ∧ a ≠ it ∧ a ≠ e) where
  mem := List.mem_cons_self
  obj := fun i h st b hb => by
    obtain ⟨⟨old, he⟩, ⟨o, ho, _, hd⟩, _⟩ := st
    rcases List.mem_cons.mp hb with rfl | hb
    · exact ⟨_, he, fun v q => nomatch q⟩
    · obtain rfl := List.mem_singleton.mp hb
      exact ⟨o, ho, fun v q => by rw [hd] at q; cases q⟩
  keep := fun i h h' st k => by
    obtain ⟨⟨old, he⟩, hi, n⟩ := st
    have me : e ∈ [e, it] := List.mem_cons_self
    have mi : it ∈ [e, it] := List.mem_cons_of_mem _ List.mem_cons_self
    exact ⟨⟨old, k e me _ he⟩, hi.at fun o q => k it mi o q, n⟩
  item := by
    intro X eP ew eK hc i pins s σ H E I hf st hg
    subst eP ew eK
    obtain ⟨⟨old, he⟩, hit, nei, nai, nae⟩ := st
    obtain ⟨xs, x, hq, hx⟩ := hg
    obtain ⟨its, rv, p, hz⟩ := I.tuple hq
    obtain ⟨u, hu, ru⟩ := rv.get hx
    have le : e < s.heap.objs.size := Heap.lt_size he
    have li : it < s.heap.objs.size := let ⟨_, q, _⟩ := hit; Heap.lt_size q
    have hnd : X.A.in1.handled = none := I.ok.hd hc
    have lt : i < its.toArray.size := by
      rw [List.size_toArray]
      exact (List.getElem?_eq_some_iff.mp hu).1
    have ne2 : e ∉ [it, a] := fun z => by
      rcases List.mem_cons.mp z with z | z
      · exact nei z
      · exact nae (List.mem_singleton.mp z).symm
    refine wpAny_pyNext_enum_itemD (Draws.tuple hnd it a nai its.toArray) he ⟨hit, p⟩ lt nei ne2 fun x' h' tk px ho st' hT sz hk => ?_
    have ex : x' = u := by
      have px : its.toArray[i]? = some x' := px
      rw [List.getElem?_toArray, hu] at px
      exact (Option.some.inj px).symm
    subst ex
    refine ⟨_, rfl, wpAny_letOwnedTupleGo_enum (s := { s with heap := h', toks := tk + 1 }) ho fun h2 he2 sb => ?_⟩
    have T2 : h2.get? s.heap.objs.size = some { cls := .type "tuple", data := .seq #[.int i tk, x'] } := (sb.2 _ (Nat.ne_of_gt le)).trans hT
    have J : Inv X pins σ (upd H s.heap.objs.size (.tup [.int (i : Nat), x])) { s with heap := h2, toks := tk + 1 } := by
      refine I.turnedNew (ch := [e, it]) (fun b ob hb q => ?_) hf (Nat.le_refl _) ⟨(by show 2 ≤ sizeLine; decide), [.int i tk, x'], .cons ⟨_, rfl⟩ (.cons ru .nil), ⟨_, T2, rfl, _, rfl⟩⟩
      have n1 : b ≠ e := fun z => hb (by rw [z]; exact List.mem_cons_self)
      have n2 : b ≠ it := fun z => hb (by rw [z]; exact List.mem_cons_of_mem _ List.mem_cons_self)
      exact (sb.2 b n1).trans (hk b ob n1 n2 q)
    refine ⟨.ref s.heap.objs.size, _, J, rfl, ⟨_, x, rfl, I.hok.fresh (Nat.le_refl _), rfl, fun ys hy => by rw [I.tuple_inj hy hq]; exact hx⟩, ⟨⟨x', ?_⟩, ?_, nei, nai, nae⟩, fun b hb => ?_⟩
    · rw [show ((i + 1 : Nat) : Int) = (i : Int) + 1 from rfl]
      exact he2
    · exact st'.1.at fun o q => (sb.2 it nei.symm).trans q
    · have lb : b < s.heap.objs.size := by
        rcases List.mem_cons.mp hb with z | z
        · rw [z]; exact le
        · rw [List.mem_singleton.mp z]; exact li
      rw [upd_ne (Nat.ne_of_lt lb)]
      exact (hf b hb).1
  done := by
    intro X eP ew eK hc i pins s σ H E I hf st hg
    subst eP ew eK
    obtain ⟨⟨old, he⟩, hit, nei, nai, nae⟩ := st
    obtain ⟨xs, hq, hx⟩ := hg
    obtain ⟨its, rv, p, hz⟩ := I.tuple hq
    have hnd : X.A.in1.handled = none := I.ok.hd hc
    have hl := rv.length
    obtain ⟨f0, f1, f2, f3, f4, f5⟩ := hf it (List.mem_cons_of_mem _ List.mem_cons_self)
    have dr : Draws X.prog X.w X.A.in1 it [it, a] i (fun _ _ => True) (fun k h => k = i ∧ h.IsTupleIter it a i ∧ h.IsTuple a its.toArray) := by
      have d0 := Draws.tuple (prog := X.prog) (w := X.w) hnd it a nai its.toArray
      exact {
        live := fun k h st => d0.live i h st.2
        frame := fun k h h' st hk => ⟨st.1, d0.frame i h h' st.2 hk⟩
        item := fun k s Q E hi st hQ => absurd hi (by rw [st.1]; exact Nat.lt_irrefl _)
        done := fun s Q E st hE => PySem.wpAny_nextOf_tuple_end hnd st.2.1 st.2.2 (Array.getElem?_eq_none (by rw [List.size_toArray]; omega)) hE }
    exact wpAny_pyNext_enum_endD dr he ⟨rfl, hit, p⟩ fun h' eb => ⟨rfl, I.turned (t' := s.toks) (fun b o hb q => eb b o hb q) f0 f1 f3 f4 f5⟩
  self := fun A i s Q E st h => by
    obtain ⟨⟨_, he⟩, _⟩ := st
    exact wpAny_pyIter_enum he h
def iEnumT (K : PySem.W.Frag) (ta : TA) : TI := fun σ H R => ta σ H fun vs H1 => ∃ a xs, vs = [.ref a] ∧ SqT K H1 a xs ∧ R (IteT K a) H1
theorem pi_enumT {X : Cx} {e : Expr} {ta : TA} {p pos tpos : Pos} {elts : List Expr} {kk : Nat} (hg : Gl X "enumerate") (hm : X.mg "enumerate" = none) (ha : PA X [e] ta) (hs : starEach [e] X.env = [(false, eval e X.env)] := by rfl) :
    PI X (.Tuple elts kk tpos) (.Call (.Name "enumerate" p) [e] [] pos) (iEnumT X.K ta) := by
  constructor
  intro pins s σ H R I h
  refine Call_ (ld_blt I hg hm boot_enumerate (PyProof.Rows.callWith_type1 (thn (ha.run pos pins s σ H _ I h) fun us s1 z => ?_) hs rfl))
  obtain ⟨vs, H1, I1, r1, a, xs, rfl, hq, q⟩ := z
  obtain rfl := Vals.ref1 r1
  obtain ⟨its, rv, py, hz⟩ := I1.tuple hq
  refine callT py fun h' he hit hk => wpAny_pyIter_enum he ?_
  have la : a < s1.heap.objs.size := let ⟨_, q, _⟩ := py; Heap.lt_size q
  have fp : ∀ b ∈ [s1.heap.objs.size + 1, s1.heap.objs.size], FpOk X pins H1 b := fun b hb => by
    have lb : s1.heap.objs.size ≤ b := by
      rcases List.mem_cons.mp hb with z | z
      · rw [z]; exact Nat.le_succ _
      · rw [List.mem_singleton.mp z]; exact Nat.le_refl _
    exact I1.fpOk lb (I1.hok.fresh lb)
  have n1 : a ≠ s1.heap.objs.size := Nat.ne_of_lt la
  have n2 : a ≠ s1.heap.objs.size + 1 := Nat.ne_of_lt (Nat.lt_succ_of_lt la)
  exact ⟨_, _, _, _, H1, rfl, I1.kept (t' := s1.toks) hk, turnT a _ _, ⟨⟨.none, he⟩, hit, Nat.succ_ne_self _, n1, n2⟩, fp, q⟩
end ET

set_option Elab.async false
set_option maxRecDepth 100000
set_option exponentiation.threshold 100000
namespace RX
open PySem L2 ZM
abbrev sGreat : Stmt := topS 8
theorem scG : FnScope ["feed", "parts", "found", "k"] ["feed", "parts"] (defScope sGreat) := ⟨rfl, rfl, rfl, by decide +kernel, rfl, by decide +kernel, by decide +kernel⟩
abbrev sIsInt : Stmt := topS 9
theorem scIs : FnScope ["actual"] ["actual"] (defScope sIsInt) := ⟨rfl, rfl, rfl, by decide +kernel, rfl, by decide +kernel, by decide +kernel⟩
abbrev sEntry : Stmt := topS 10
theorem scEn : FnScope ["feed", "parts"] ["feed", "parts"] (defScope sEntry) := ⟨rfl, rfl, rfl, by decide +kernel, rfl, by decide +kernel, by decide +kernel⟩
abbrev sLead : Stmt := topS 1
theorem scLe : FnScope ["row", "at", "number"] ["row"] (defScope sLead) := ⟨rfl, rfl, rfl, by decide +kernel, rfl, by decide +kernel, by decide +kernel⟩
abbrev sLess : Stmt := topS 4
theorem scLs : FnScope ["row", "count", "other", "mine", "its"] ["row", "count", "other"] (defScope sLess) := ⟨rfl, rfl, rfl, by decide +kernel, rfl, by decide +kernel, by decide +kernel⟩
abbrev sPieces : Stmt := topS 3
theorem scPi : FnScope ["basis", "row", "found", "left", "line", "lead", "count"] ["basis", "row"] (defScope sPieces) := ⟨rfl, rfl, rfl, by decide +kernel, rfl, by decide +kernel, by decide +kernel⟩
/-! ### rows of integers -/
def rLstO (K : PySem.W.Frag) : List V → Hp → VK → Prop := fun xs H Q => ∃ p ys, xs = [.ref p] ∧ (SqL K H p ys ∨ SqT K H p ys) ∧ ∀ l : Addr, H l = none → Q (.ref l) (upd H l (.lst ys))
theorem call_listK {X : Cx} : CallR X (.type "list") (rLstO X.K) := call_list_of
def rTupO (K : PySem.W.Frag) : List V → Hp → VK → Prop := fun xs H Q => ∃ p ys, xs = [.ref p] ∧ ((SqL K H p ys ∧ ∀ l : Addr, H l = none → Q (.ref l) (upd H l (.tup ys))) ∨ SqT K H p ys ∧ Q (.ref p) H)
theorem call_tupK {X : Cx} : CallR X (.type "tuple") (rTupO X.K) := call_tuple_of
def iV (w : Nat) (z : Nat → Int) : List V := (List.range w).map fun j => V.int (z j)
theorem iV_len {w : Nat} {z : Nat → Int} : (iV w z).length = w := by unfold iV; rw [List.length_map, List.length_range]
theorem iV_get {w : Nat} {z : Nat → Int} {i : Nat} (h : i < w) : (iV w z)[i]? = some (.int (z i)) := by
  unfold iV
  rw [List.getElem?_map, List.getElem?_range h]
  rfl
theorem iV_lt {w : Nat} {z : Nat → Int} {i : Nat} {x : V} (h : (iV w z)[i]? = some x) : i < w ∧ x = .int (z i) := by
  have hi : i < w := by
    have := (List.getElem?_eq_some_iff.mp h).1
    rw [iV_len] at this
    exact this
  rw [iV_get hi] at h
  exact ⟨hi, (Option.some.inj h).symm⟩
theorem iV_succ {w : Nat} {z : Nat → Int} : iV (w + 1) z = iV w z ++ [.int (z w)] := by
  unfold iV
  rw [List.range_succ, List.map_append]
  rfl
theorem iV_ext {w : Nat} {z y : Nat → Int} (h : ∀ j, j < w → z j = y j) : iV w z = iV w y := List.map_congr_left fun i hi => by rw [h i (List.mem_range.mp hi)]
theorem at_ints {N : Addr → Prop} {H : Hp} {p : Addr} {w : Nat} {z : Nat → Int} (h : H p = some (.lst (iV w z))) (n : ¬ N p) : At N H (.ref p) (intL w z) :=
  .lst h n (by rw [iV_len, rng_len]) fun i x d hx hd => by
    obtain ⟨hi, rfl⟩ := iV_lt hx
    obtain ⟨_, rfl⟩ := rng_lt hd
    exact .int _
theorem At.ints {N : Addr → Prop} {H : Hp} {p : Addr} {w : Nat} {z : Nat → Int} (h : At N H (.ref p) (intL w z)) : H p = some (.lst (iV w z)) := by
  obtain ⟨xs, hp, l, e⟩ := At.lstR h
  rw [hp]
  congr 2
  refine List.ext_getElem? fun i => ?_
  by_cases hi : i < w
  · obtain ⟨x, hx, hd⟩ := e i hi
    rw [hx, iV_get hi, hd.intV]
  · rw [List.getElem?_eq_none (by omega), List.getElem?_eq_none (by rw [iV_len]; omega)]
def intT (w : Nat) (z : Nat → Int) : Dat := .tup (rng w fun j => .int (z j))
theorem at_intsT {N : Addr → Prop} {H : Hp} {p : Addr} {w : Nat} {z : Nat → Int} (h : H p = some (.tup (iV w z))) (n : ¬ N p) : At N H (.ref p) (intT w z) :=
  .tup h n (by rw [iV_len, rng_len]) fun i x d hx hd => by
    obtain ⟨hi, rfl⟩ := iV_lt hx
    obtain ⟨_, rfl⟩ := rng_lt hd
    exact .int _
theorem At.intsT {N : Addr → Prop} {H : Hp} {p : Addr} {w : Nat} {z : Nat → Int} (h : At N H (.ref p) (intT w z)) : H p = some (.tup (iV w z)) := by
  obtain ⟨xs, hp, l, e⟩ := At.tupR h
  rw [hp]
  congr 2
  refine List.ext_getElem? fun i => ?_
  by_cases hi : i < w
  · obtain ⟨x, hx, hd⟩ := e i hi
    rw [hx, iV_get hi, hd.intV]
  · rw [List.getElem?_eq_none (by omega), List.getElem?_eq_none (by rw [iV_len]; omega)]
/-- a list or a tuple of integers -/
def RowS (H : Hp) (p : Addr) (w : Nat) (z : Nat → Int) : Prop := H p = some (.tup (iV w z)) ∨ H p = some (.lst (iV w z))
theorem RowS.same {H H' : Hp} {p : Addr} {w : Nat} {z : Nat → Int} (h : RowS H p w z) (s : Same H H') : RowS H' p w z := h.imp (s _ _) (s _ _)
theorem RowS.sq {K : PySem.W.Frag} {H : Hp} {p : Addr} {w : Nat} {z : Nat → Int} (h : RowS H p w z) : ∃ k, ∀ H', Same H H' → SqB k K H' p (iV w z) := by
  rcases h with h | h
  · exact ⟨true, fun H' s => .inl ⟨rfl, SqT.of (s _ _ h)⟩⟩
  · exact ⟨false, fun H' s => .inr ⟨rfl, SqL.of (s _ _ h)⟩⟩
theorem Same.refl {H : Hp} : Same H H := fun _ _ h => h
/-- of at most 4400 bits -/
def Sm (x : Int) : Prop := x.natAbs < 2 ^ 4400
theorem Sm.w {x y : Int} (a : Sm x) (b : Sm y) : CMulW x y := wide_mul a b (by decide) (by decide) (by decide)
def Bz (b : Nat) (x : Int) : Prop := x.natAbs < 2 ^ b
theorem Bz.le {a b : Nat} {x : Int} (h : Bz a x) (l : a ≤ b) : Bz b x := Nat.lt_of_lt_of_le h (Nat.pow_le_pow_right (by decide) l)
theorem Bz.sm {a : Nat} {x : Int} (h : Bz a x) (l : a ≤ 4400) : Sm x := h.le l
theorem Bz.mul {a b : Nat} {x y : Int} (h : Bz a x) (k : Bz b y) : Bz (a + b) (x * y) := by
  unfold Bz at *
  rw [Int.natAbs_mul, Nat.pow_add]
  exact Nat.mul_lt_mul'' h k
theorem Bz.add {a : Nat} {x y : Int} (h : Bz a x) (k : Bz a y) : Bz (a + 1) (x + y) := by
  unfold Bz at *
  rw [Nat.pow_succ]
  omega
theorem Bz.sub {a : Nat} {x y : Int} (h : Bz a x) (k : Bz a y) : Bz (a + 1) (x - y) := by
  unfold Bz at *
  rw [Nat.pow_succ]
  omega
theorem div_le {a b : Int} (h : 0 < b) : (a / b).natAbs ≤ a.natAbs := by
  by_cases n : 0 ≤ a
  · have h1 := Int.ediv_nonneg n (Int.le_of_lt h)
    have h2 := Int.ediv_le_self b n
    omega
  · have h1 : a ≤ a / b := (Int.le_ediv_iff_mul_le h).mpr (by
      have : 0 ≤ (-a) * (b - 1) := Int.mul_nonneg (by omega) (by omega)
      rw [Int.mul_sub, Int.neg_mul, Int.mul_one] at this
      omega)
    have h2 : a / b < 0 := Int.ediv_neg_of_neg_of_pos (by omega) h
    omega
theorem Bz.div {a : Nat} {x y : Int} (h : Bz a x) (p : 0 < y) : Bz a (x / y) := Nat.lt_of_le_of_lt (div_le p) h
/-- the first place with an integer other than 0 -/
structure IsLead (w : Nat) (z : Nat → Int) (k : Nat) : Prop where
  lt : k < w
  pos : 0 < z k
  zero : ∀ j, j < k → z j = 0
/-- what is left of the row when the rows are taken from it one after another -/
def lf (y : Nat → Nat → Int) (p : Nat → Nat) (z : Nat → Int) : Nat → Nat → Int
  | 0 => z
  | i + 1 => fun j => lf y p z i j - (lf y p z i (p i) / y i (p i)) * y i j
def ct (y : Nat → Nat → Int) (p : Nat → Nat) (z : Nat → Int) (i : Nat) : Int := lf y p z i (p i) / y i (p i)
theorem lf_small {n w b : Nat} {y : Nat → Nat → Int} {p : Nat → Nat} {z : Nat → Int} (hp : ∀ i, i < n → IsLead w (y i) (p i)) (hy : ∀ i, i < n → ∀ j, j < w → Bz 171 (y i j)) (hz : ∀ j, j < w → Bz b (z j)) :
    ∀ i, i ≤ n → ∀ j, j < w → Bz (b + 172 * i) (lf y p z i j)
  | 0, _, j, hj => hz j hj
  | i + 1, hi, j, hj => by
    have a := lf_small hp hy hz i (by omega) j hj
    have c := (lf_small hp hy hz i (by omega) (p i) (hp i (by omega)).lt).div (hp i (by omega)).pos
    have m := c.mul (hy i (by omega) j hj)
    exact ((a.le (show b + 172 * i ≤ b + 172 * i + 171 by omega)).sub m).le (by omega)
theorem walk_enumT {K : PySem.W.Frag} {a : Addr} {xs : List V} : Walk (ET.IteT K a) xs.length (fun H => SqT K H a xs) (YPair (fun i => some (.int (i : Nat))) (fun i => xs[i]?)) := by
  refine ⟨fun i _ hi q => ⟨xs, xs[i], q, by simp [hi]⟩, fun _ q => ⟨xs, q, Nat.le_refl _⟩, fun i H v H' _ q y => ?_⟩
  obtain ⟨T, x, y1, y2, y3, y4⟩ := y
  exact ⟨T, .int (i : Nat), x, y1, y2, y3, rfl, y4 xs q⟩
def spIsInt : Sp := fun vs H Q _ => ∃ n : Int, vs = [.int n] ∧ Q (.bl true) H
def spEn : Sp := fun vs H Q _ => ∃ (a cl : Addr) (m : Int), vs = [.ref a, .int m] ∧ FeedAt H a cl ∧ 0 ≤ m ∧ m ≤ 10 ∧ ∀ (r : Int) (H' : Hp), Bz 171 r → FeedAt H' a cl → But a H H' → Q (.int r) H'
def spLead : Sp := fun vs H Q _ => ∃ (p : Addr) (w : Nat) (z : Nat → Int), vs = [.ref p] ∧ RowS H p w z ∧ w ≤ 1000 ∧ (∀ (k : Nat) (H' : Hp), k < w → z k ≠ 0 → (∀ j, j < k → z j = 0) → Same H H' → Q (.int (k : Nat)) H') ∧ ((∀ j, j < w → z j = 0) → ∀ H' : Hp, Same H H' → Q .non H')
def spLess : Sp := fun vs H Q _ => ∃ (p r : Addr) (w : Nat) (c : Int) (z y : Nat → Int), vs = [.ref p, .int c, .ref r] ∧ RowS H p w z ∧ H r = some (.tup (iV w y)) ∧ w ≤ 1000 ∧ Sm c ∧ (∀ j, j < w → Sm (y j)) ∧
  ∀ (q : Addr) (H' : Hp), Same H H' → (q = p ∨ H q = none) → RowS H' q w (fun j => z j - c * y j) → Q (.ref q) H'
/-- a list or a tuple of tuples of integers -/
def TabS (H : Hp) (b : Addr) (n w : Nat) (y : Nat → Nat → Int) : Prop := ∃ xs : List V, (H b = some (.tup xs) ∨ H b = some (.lst xs)) ∧ xs.length = n ∧ ∀ i, i < n → ∃ p : Addr, xs[i]? = some (.ref p) ∧ H p = some (.tup (iV w (y i)))
theorem TabS.same {H H' : Hp} {b : Addr} {n w : Nat} {y : Nat → Nat → Int} (h : TabS H b n w y) (s : Same H H') : TabS H' b n w y := by
  obtain ⟨xs, h1, h2, h3⟩ := h
  exact ⟨xs, h1.imp (s _ _) (s _ _), h2, fun i hi => let ⟨p, e, g⟩ := h3 i hi; ⟨p, e, s _ _ g⟩⟩
/-- the counts, or None -/
def OutT (H : Hp) (n w : Nat) (y : Nat → Nat → Int) (p : Nat → Nat) (z : Nat → Int) (v : V) : Prop :=
  ((∀ j, j < w → lf y p z n j = 0) ∧ ∃ r : Addr, v = .ref r ∧ H r = some (.tup (iV n (ct y p z)))) ∨ ((¬ ∀ j, j < w → lf y p z n j = 0) ∧ v = .non)
def OutL (H : Hp) (n w : Nat) (y : Nat → Nat → Int) (p : Nat → Nat) (z : Nat → Int) (v : V) : Prop :=
  ((∀ j, j < w → lf y p z n j = 0) ∧ ∃ r : Addr, v = .ref r ∧ H r = some (.lst (iV n (ct y p z)))) ∨ ((¬ ∀ j, j < w → lf y p z n j = 0) ∧ v = .non)
theorem OutT.same {H H' : Hp} {n w : Nat} {y : Nat → Nat → Int} {p : Nat → Nat} {z : Nat → Int} {v : V} (h : OutT H n w y p z v) (s : Same H H') : OutT H' n w y p z v := h.imp (fun ⟨a, r, e, g⟩ => ⟨a, r, e, s _ _ g⟩) id
theorem OutL.same {H H' : Hp} {n w : Nat} {y : Nat → Nat → Int} {p : Nat → Nat} {z : Nat → Int} {v : V} (h : OutL H n w y p z v) (s : Same H H') : OutL H' n w y p z v := h.imp (fun ⟨a, r, e, g⟩ => ⟨a, r, e, s _ _ g⟩) id
def spPi : Sp := fun vs H Q _ => ∃ (b l : Addr) (n w : Nat) (y : Nat → Nat → Int) (p : Nat → Nat) (z : Nat → Int), vs = [.ref b, .ref l] ∧ TabS H b n w y ∧ H l = some (.tup (iV w z)) ∧ w ≤ 6 ∧ n ≤ 6 ∧ (∀ i, i < n → IsLead w (y i) (p i)) ∧ (∀ i, i < n → ∀ j, j < w → Bz 171 (y i j)) ∧ (∀ j, j < w → Bz 200 (z j)) ∧
  ∀ (v : V) (H' : Hp), Same H H' → OutT H' n w y p z v → Q v H'
section
variable {P : Program} {w : World} {K : PySem.W.Frag} {mg : Str → Option Value} {base : Heap}
theorem ok_great {f fD : Addr} {fd dD : FuncData} (F : Fun K "_law_great" "_law_great" sGreat f fd) (T : TxtL mg) (cDr : CalN P w K mg base "_law_draw" 1 ["feed", "limit"] spDraw fD dD) :
    FnOk P w K mg base CX0 2 f fd ["feed", "parts"] spGreat := by
  refine F.ok scG (fun vs H Q E h => ?_) (fun cdv A outer s H vs Q E hr h => ?_)
  · obtain ⟨a, cl, m, rfl, _⟩ := h
    rfl
  · obtain ⟨a, cl, m, rfl, hF, h0, h1, k⟩ := h
    have hr1 : Room 1 _ := hr.mono (by decide)
    refine ⟨_, pss_cons (ps_set (i := 2) scG.nd rfl (.inl rfl) pe_int)
      (pss_cons (ps_for PassesOwn.never rfl (pi_range1 (by rfl) T.range (pa_cons (pv 1) pa_nil)) (pg_name (i := 3) scG.nd rfl (.inl rfl))
        (pss_one (ps_set (i := 2) scG.nd rfl (.inl rfl) (pe_op op_add (pe_op op_mulW (pv 2) pe_int) (pe_call cDr.G hr1 rfl cDr.m cDr.kp cDr.b .nil pass0 (pa_cons (pv 0) (pa_cons pe_int pa_nil)))))))
      (pss_one (ps_ret (pv 2)))), ?_⟩
    refine ⟨_, rfl, m, rfl, by omega, by omega, for_range (n := m.toNat) (fun i σ H' => ∃ (x : Int) (y : Option V), σ = [some (.ref a), some (.int m), some (.int x), y] ∧ 0 ≤ x ∧ x < 100000 ^ i ∧ FeedAt H' a cl ∧ But a H H')
      ⟨0, none, rfl, by omega, by decide, hF, But.refl a H⟩ ?_ ?_⟩
    · rintro i σ H' hi ⟨x, y, rfl, x0, x1, f1, b1⟩
      have cw : CMulW x 100000 := by
        have e : x.natAbs < 2 ^ 1700 := by
          have h1 : x.natAbs < 100000 ^ i := by
            have : ((x.natAbs : Nat) : Int) < ((100000 ^ i : Nat) : Int) := by rw [Int.natAbs_of_nonneg x0, Int.natCast_pow]; exact x1
            omega
          refine Nat.lt_of_lt_of_le h1 (Nat.le_trans (Nat.pow_le_pow_right (by decide) (show i ≤ 100 by omega)) ?_)
          decide +kernel
        exact wide_mul e (show ((100000 : Int)).natAbs < 2 ^ 20 by decide) (by decide) (by decide) (by decide)
      refine ⟨_, rfl, _, _, rfl, rfl, cw, _, rfl, a, cl, _, rfl, f1, by decide, by decide, fun r H2 r0 r1 f2 b2 => ?_⟩
      refine ⟨_, _, rfl, rfl, _, _, rfl, by omega, ?_, f2, b1.trans b2⟩
      rw [Int.pow_succ]
      omega
    · rintro σ H' ⟨x, y, rfl, x0, x1, f1, b1⟩
      exact ⟨_, rfl, k x H' x0 x1 f1 b1⟩
theorem ok_isInt {f : Addr} {fd : FuncData} (F : Fun K "_law_is_integer" "_law_is_integer" sIsInt f fd) (T : TxtL mg) : FnOk P w K mg base CX0 1 f fd ["actual"] spIsInt := by
  refine F.ok scIs (fun vs H Q E h => ?_) (fun cdv A outer s H vs Q E hr h => ?_)
  · obtain ⟨n, rfl, _⟩ := h
    rfl
  · obtain ⟨n, rfl, k⟩ := h
    refine ⟨_, pss_one (ps_ret (pe_and (pe_callB call_isi (by rfl) T.isi (by decide +kernel) (pa_cons (pv 0) (pa_cons (pe_bltn (v := .ty "int") (by rfl) T.int (by decide +kernel) rfl) pa_nil))) (pe_one (pe_not (pe_callB call_isi (by rfl) T.isi (by decide +kernel) (pa_cons (pv 0) (pa_cons (pe_bltn (v := .ty "bool") (by rfl) T.bool (by decide +kernel) rfl) pa_nil))))))), ?_⟩
    refine ⟨_, rfl, _, _, _, _, true, rfl, .ty _, .base (.int n), kit_ty (by decide +kernel), true, rfl, ?_⟩
    refine iteT ?_
    exact ⟨_, rfl, _, _, _, _, false, rfl, .ty _, .base (.int n), kit_ty (by decide +kernel), false, rfl, k⟩
theorem ok_en {f fD fG : Addr} {fd dD dG : FuncData} (F : Fun K "_law_entry" "_law_entry" sEntry f fd) (T : TxtL mg) (cDr : CalN P w K mg base "_law_draw" 1 ["feed", "limit"] spDraw fD dD) (cGr : CalN P w K mg base "_law_great" 2 ["feed", "parts"] spGreat fG dG) :
    FnOk P w K mg base CX0 3 f fd ["feed", "parts"] spEn := by
  refine F.ok scEn (fun vs H Q E h => ?_) (fun cdv A outer s H vs Q E hr h => ?_)
  · obtain ⟨a, cl, m, rfl, _⟩ := h
    rfl
  · obtain ⟨a, cl, m, rfl, hF, h0, h1, k⟩ := h
    have hr1 : Room 1 _ := hr.mono (by decide)
    have hr2 : Room 2 _ := hr.mono (by decide)
    refine ⟨_, pss_cons (ps_if (pt_cmpR op_gt (pv 1) pe_int (nomark _))
        (pss_one (ps_ret (pe_op op_mulW (pe_call cGr.G hr2 rfl cGr.m cGr.kp cGr.b .nil pass0 (pa_cons (pv 0) (pa_cons (pv 1) pa_nil))) (pe_op op_sub pe_int (pe_op op_mulW pe_int (pe_call cDr.G hr1 rfl cDr.m cDr.kp cDr.b .nil pass0 (pa_cons (pv 0) (pa_cons pe_int pa_nil))))))))
        pss_nil)
      (pss_one (ps_ret (pe_op op_sub (pe_call cDr.G hr1 rfl cDr.m cDr.kp cDr.b .nil pass0 (pa_cons (pv 0) (pa_cons pe_int pa_nil))) pe_int))), ?_⟩
    refine ⟨_, rfl, _, _, rfl, rfl, _, rfl, ite2 (fun _ => ?_) (fun _ => ?_)⟩
    · refine ⟨_, rfl, _, rfl, a, cl, m, rfl, hF, h0, by omega, fun r H1 r0 r1 f1 b1 => ?_⟩
      have hb : Bz 169 r := by
        have h2 : r.natAbs < 100000 ^ m.toNat := by
          have : ((r.natAbs : Nat) : Int) < ((100000 ^ m.toNat : Nat) : Int) := by rw [Int.natAbs_of_nonneg r0, Int.natCast_pow]; exact r1
          omega
        refine Nat.lt_of_lt_of_le h2 (Nat.le_trans (Nat.pow_le_pow_right (by decide) (show m.toNat ≤ 10 by omega)) ?_)
        decide +kernel
      refine ⟨_, rfl, a, cl, 2, rfl, f1, by decide, by decide, fun d H2 d0 d1 f2 b2 => ?_⟩
      have hd : Bz 1 d := by show d.natAbs < 2; omega
      refine ⟨_, _, rfl, rfl, wide_mul (show ((2 : Int)).natAbs < 2 ^ 2 by decide) hd (by decide) (by decide) (by decide), _, _, rfl, rfl, ?_⟩
      have h3 : Bz 1 (1 - 2 * d) := by show (1 - 2 * d).natAbs < 2; omega
      refine ⟨_, _, rfl, rfl, wide_mul hb h3 (by decide) (by decide) (by decide), ?_⟩
      exact k _ _ ((hb.mul h3).le (by decide)) f2 (b1.trans b2)
    · refine ⟨_, rfl, a, cl, 19, rfl, hF, by decide, by decide, fun r H1 r0 r1 f1 b1 => ⟨_, _, rfl, rfl, k _ _ (Bz.le (a := 5) ?_ (by decide)) f1 b1⟩⟩
      show (r - 9).natAbs < 32
      omega
theorem ok_le {f : Addr} {fd : FuncData} (F : Fun K "leading_place" "leading_place" sLead f fd) (me : mg "enumerate" = none) : FnOk P w K mg base CX0 1 f fd ["row"] spLead := by
  refine F.ok scLe (fun vs H Q E h => ?_) (fun cdv A outer s H vs Q E hr h => ?_)
  · obtain ⟨p, w, z, rfl, _⟩ := h
    rfl
  · obtain ⟨p, ww, z, rfl, hp, hw, k1, k2⟩ := h
    refine ⟨_, pss_cons (ps_for PassesOwn.never rfl (XC.pi_or (pi_enum (by rfl) me (pa_cons (pv 0) pa_nil)) (ET.pi_enumT (by rfl) me (pa_cons (pv 0) pa_nil))) (pg_tup rfl (pgs_cons (pg_name (i := 1) scLe.nd rfl (.inl rfl)) (pgs_cons (pg_name (i := 2) scLe.nd rfl (.inl rfl)) pgs_nil)))
        (pss_one (ps_if (pt_truth (pv 2) (by intro _; rfl))
          (pss_one (ps_ret (pv 1)))
          pss_nil)))
      (pss_one (ps_ret pe_non)), ?_⟩
    have core : ∀ (J : It) (G : Hp → Prop), Walk J ww G (YPair (fun i => some (.int (i : Nat))) (fun i => (iV ww z)[i]?)) → (∀ H', Same H H' → G H') → True := fun _ _ _ _ => trivial
    rcases hp with hp | hp
    · refine .inr ⟨_, rfl, p, _, rfl, SqT.of hp, for_it (walk_enumT (K := K) (a := p) (xs := iV ww z)) (fun i σ H' => ∃ o1 o2, σ = [some (.ref p), o1, o2] ∧ Same H H' ∧ ∀ j, j < i → z j = 0)
        ⟨none, none, rfl, Same.refl, fun j hj => absurd hj (by omega)⟩ (fun i σ H' _ h => by obtain ⟨_, _, _, s, _⟩ := h; exact SqT.of (s _ _ hp)) ?_ ?_⟩
      · rintro i v σ H1 H2 hi ⟨o1, o2, rfl, s1, zz⟩ ⟨T', x, x', rfl, nT, rfl, h1, h2⟩
        obtain rfl := Option.some.inj h1
        obtain ⟨hi', rfl⟩ := iV_lt h2
        have sT : Same H1 (upd H1 T' (.tup [.int (i : Nat), .int (z i)])) := Same.upd nT
        refine ⟨T', _, rfl, SqT.of upd_same, rfl, _, _, rfl, _, _, rfl, rfl, ?_⟩
        refine ⟨_, rfl, _, rfl, ?_⟩
        by_cases z0 : z i = 0
        · rw [show ((z i != 0) : Bool) = false by rw [z0]; rfl]
          refine iteF ⟨_, _, rfl, s1.trans sT, fun j hj => ?_⟩
          by_cases e : j = i
          · rw [e]; exact z0
          · exact zz j (by omega)
        · rw [show ((z i != 0) : Bool) = true from bne_iff_ne.mpr z0]
          exact iteT ⟨_, rfl, k1 i _ hi' z0 zz (s1.trans sT)⟩
      · rintro σ H1 ⟨o1, o2, rfl, s1, zz⟩
        rw [iV_len] at zz
        exact k2 zz H1 s1
    · refine .inl ⟨_, rfl, p, _, rfl, SqL.of hp, for_it (walk_enum (K := K) (a := p) (xs := iV ww z)) (fun i σ H' => ∃ o1 o2, σ = [some (.ref p), o1, o2] ∧ Same H H' ∧ ∀ j, j < i → z j = 0)
        ⟨none, none, rfl, Same.refl, fun j hj => absurd hj (by omega)⟩ (fun i σ H' _ h => by obtain ⟨_, _, _, s, _⟩ := h; exact SqL.of (s _ _ hp)) ?_ ?_⟩
      · rintro i v σ H1 H2 hi ⟨o1, o2, rfl, s1, zz⟩ ⟨T', x, x', rfl, nT, rfl, h1, h2⟩
        obtain rfl := Option.some.inj h1
        obtain ⟨hi', rfl⟩ := iV_lt h2
        have sT : Same H1 (upd H1 T' (.tup [.int (i : Nat), .int (z i)])) := Same.upd nT
        refine ⟨T', _, rfl, SqT.of upd_same, rfl, _, _, rfl, _, _, rfl, rfl, ?_⟩
        refine ⟨_, rfl, _, rfl, ?_⟩
        by_cases z0 : z i = 0
        · rw [show ((z i != 0) : Bool) = false by rw [z0]; rfl]
          refine iteF ⟨_, _, rfl, s1.trans sT, fun j hj => ?_⟩
          by_cases e : j = i
          · rw [e]; exact z0
          · exact zz j (by omega)
        · rw [show ((z i != 0) : Bool) = true from bne_iff_ne.mpr z0]
          exact iteT ⟨_, rfl, k1 i _ hi' z0 zz (s1.trans sT)⟩
      · rintro σ H1 ⟨o1, o2, rfl, s1, zz⟩
        rw [iV_len] at zz
        exact k2 zz H1 s1
theorem ok_ls {f : Addr} {fd : FuncData} (F : Fun K "_less" "_less" sLess f fd) (mz : mg "zip" = none) : FnOk P w K mg base CX0 1 f fd ["row", "count", "other"] spLess := by
  refine F.ok scLs (fun vs H Q E h => ?_) (fun cdv A outer s H vs Q E hr h => ?_)
  · obtain ⟨p, r, w, c, z, y, rfl, _⟩ := h
    rfl
  · obtain ⟨p, r, ww, c, z, y, rfl, hp, hr', hw, gc, gy, k⟩ := h
    refine ⟨_, pss_cons (ps_if (pt_cmpR op_eq (pv 1) pe_int (nomark _))
        (pss_one (ps_ret (pv 0)))
        pss_nil)
      (pss_one (ps_ret (pe_lc (own := [("mine", 3), ("its", 4)]) (g := gTup K 2 (gCons (gName 3) (gCons (gName 4) gNil))) (tt := tYes) rfl scLs.nd (ZM.pi_zipM (by rfl) mz (pa_cons (pv 0) (pa_cons (pv 2) pa_nil))) (blkOk_by (N := ["row", "count", "other", "mine", "its"]) (sc := (defScope sLess)) (by decide +kernel)) (fun _ _ _ _ _ => (pg_tup rfl (pgs_cons (pg_name (i := 3) scLs.nd rfl (.inl rfl)) (pgs_cons (pg_name (i := 4) scLs.nd rfl (.inl rfl)) pgs_nil)))) (fun _ _ _ _ _ => pts_nil) (fun _ _ _ _ _ => (pe_op op_sub (pv 3) (pe_op op_mulW (pv 1) (pv 4))))))), ?_⟩
    refine ⟨_, rfl, rfl, _, rfl, ite2 (fun e => ?_) (fun _ => ?_)⟩
    · have e : c = 0 := by
        have := of_decide_eq_true e
        injection this
      refine ⟨_, rfl, k p H Same.refl (.inl rfl) ?_⟩
      have ee : (fun j => z j - c * y j) = z := by
        funext j
        rw [e, Int.zero_mul, Int.sub_zero]
      rw [ee]
      exact hp
    · obtain ⟨kk, hk⟩ := hp.sq (K := K)
      have sr : ∀ H', Same H H' → SqB true K H' r (iV ww y) := fun H' s => .inl ⟨rfl, SqT.of (s _ _ hr')⟩
      refine ⟨_, rfl, _, rfl, kk, true, p, r, _, _, rfl, hk H Same.refl, sr H Same.refl, fun D nD => ?_⟩
      refine lc_it (walk_zipM (K := K) (k := kk) (l := true) (a := p) (b := r) (xs := iV ww z) (ys := iV ww y) (n := ww) (by rw [iV_len, iV_len, Nat.min_self])) (fun j H' => H' D = some (.lst (iV j fun j => z j - c * y j)) ∧ Same H H') ⟨upd_same, Same.upd nD⟩ (fun j H' _ h => ⟨hk _ h.2, sr _ h.2⟩) ?_ ?_
      · rintro j v H3 H4 hj ⟨hG, s3⟩ ⟨T2, x, x', rfl, nT2, rfl, h1, h2⟩
        obtain ⟨_, rfl⟩ := iV_lt h1
        obtain ⟨_, rfl⟩ := iV_lt h2
        have sT : Same H3 (upd H3 T2 (.tup [.int (z j), .int (y j)])) := Same.upd nT2
        refine ⟨T2, _, rfl, SqT.of upd_same, rfl, _, _, rfl, _, _, rfl, rfl, rfl, ?_⟩
        refine ⟨_, rfl, _, rfl, _, rfl, _, _, rfl, rfl, gc.w (gy j hj), _, _, rfl, rfl, _, sT _ _ hG, ?_, ?_, ?_⟩
        · rw [iV_len]; exact small1000 (by omega)
        · rw [upd_same, iV_succ]
        · intro b o e
          rw [upd_ne (ne_of_none e nD)]
          exact sT _ _ (s3 _ _ e)
      · rintro H2 ⟨hG, s2⟩
        exact k D H2 s2 (.inr nD) (.inr hG)
end
end RX

set_option Elab.async false
set_option maxRecDepth 100000
set_option exponentiation.threshold 100000
namespace RX
open PySem L2 ZM
section
variable {P : Program} {w : World} {K : PySem.W.Frag} {mg : Str → Option Value} {base : Heap}
theorem lead_eq {w k l : Nat} {z : Nat → Int} (L : IsLead w z l) (h0 : z k ≠ 0) (h : ∀ j, j < k → z j = 0) : k = l := by
  rcases Nat.lt_trichotomy k l with q | q | q
  · exact absurd (L.zero k q) h0
  · exact q
  · exact absurd (h l q) (Int.ne_of_gt L.pos)
theorem ix_rowS {K : PySem.W.Frag} {H : Hp} {p : Addr} {w k : Nat} {z : Nat → Int} {Q : VK} (h : RowS H p w z) (hk : k < w) (q : Q (.int (z k)) H) : rIxL K (.ref p) (.int (k : Nat)) H Q ∨ rIxT K (.ref p) (.int (k : Nat)) H Q := by
  rcases h with h | h
  · exact .inr ⟨p, _, _, _, rfl, rfl, SqT.of h, at_of rfl (iV_get hk), q⟩
  · exact .inl ⟨p, _, _, _, rfl, rfl, SqL.of h, at_of rfl (iV_get hk), q⟩
/-- the row; it is not the list q -/
def RowN (H : Hp) (q p : Addr) (w : Nat) (z : Nat → Int) : Prop := RowS H p w z ∧ p ≠ q
theorem ok_pi {f fLe fLs : Addr} {fd dLe dLs : FuncData} (F : Fun K "pieces" "pieces" sPieces f fd) (mt : mg "tuple" = none) (cLe : CalN P w K mg base "leading_place" 1 ["row"] spLead fLe dLe) (cLs : CalN P w K mg base "_less" 1 ["row", "count", "other"] spLess fLs dLs) :
    FnOk P w K mg base CX0 2 f fd ["basis", "row"] spPi := by
  refine F.ok scPi (fun vs H Q E h => ?_) (fun cdv A outer s H vs Q E hr h => ?_)
  · obtain ⟨b, l, n, w, y, p, z, rfl, _⟩ := h
    rfl
  · obtain ⟨b, l, n, ww, y, p, z, rfl, ⟨xs, hb, lx, ex⟩, hl, hw, hn, hlead, gy, gz, kk⟩ := h
    have hr1 : Room 1 _ := hr.mono (by decide)
    refine ⟨_, pss_cons (ps_set (i := 2) scPi.nd rfl (.inl rfl) (pe_lst pa_nil))
      (pss_cons (ps_set (i := 3) scPi.nd rfl (.inl rfl) (pv 1))
      (pss_cons (ps_for PassesOwn.never rfl (XC.pi_or (pi_list (pv 0)) (pi_tup (pv 0))) (pg_name (i := 4) scPi.nd rfl (.inl rfl))
        (pss_cons (ps_set (i := 5) scPi.nd rfl (.inl rfl) (pe_call cLe.G hr1 rfl cLe.m cLe.kp cLe.b .nil pass0 (pa_cons (pv 4) pa_nil)))
        (pss_cons (ps_set (i := 6) scPi.nd rfl (.inl rfl) (pe_op op_fdivW (pe_ix (IxR.or ix_list ix_tup) (pv 3) (pv 5) (fun _ _ => rfl)) (pe_ix ix_tup (pv 4) (pv 5) (fun _ _ => rfl))))
        (pss_cons (ps_set (i := 3) scPi.nd rfl (.inl rfl) (pe_call cLs.G hr1 rfl cLs.m cLs.kp cLs.b .nil pass0 (pa_cons (pv 3) (pa_cons (pv 6) (pa_cons (pv 4) pa_nil)))))
        (pss_one (ps_expr (pe_bm PySem.F.plainAttrs_list PySem.F.slot_list_append PySem.F.type_list_append mt_append (pv 2) (pa_cons (pv 6) pa_nil))))))))
      (pss_one (ps_ret (pe_ifExp (pt_cmpR op_isN1 (pe_call cLe.G hr1 rfl cLe.m cLe.kp cLe.b .nil pass0 (pa_cons (pv 3) pa_nil)) pe_non (nomark _)) (pe_callTy (T := "tuple") call_tuple_of (by rfl) mt (by decide +kernel) (pa_cons (pv 2) pa_nil)) pe_non))))), ?_⟩
    refine ⟨(by show 0 ≤ sizeLine; decide), fun q0 nq0 => ?_⟩
    have s0 : Same H (upd H q0 (.lst [])) := Same.upd nq0
    refine ⟨_, rfl, ?_⟩
    rcases hb with hb | hb
    · refine .inr ⟨_, rfl, b, rfl, ⟨_, SqT.of (s0 _ _ hb)⟩, for_it (walk_tup (K := K) (a := b) (xs := xs)) (fun i σ H' => ∃ q pl o4 o5 o6, σ = [some (.ref b), some (.ref l), some (.ref q), some (.ref pl), o4, o5, o6] ∧ H' q = some (.lst (iV i (ct y p z))) ∧ RowN H' q pl ww (lf y p z i) ∧ H q = none ∧ Same H H')
        ⟨q0, l, none, none, none, rfl, upd_same, ⟨.inl (s0 _ _ hl), ne_of_none hl nq0⟩, nq0, s0⟩ (fun i σ H' _ h => by obtain ⟨_, _, _, _, _, _, _, _, _, s⟩ := h; exact SqT.of (s _ _ hb)) ?_ ?_⟩
      · rintro i x σ H1 H2 hi ⟨q, pl, o4, o5, o6, rfl, hq, ⟨hrow, hn2⟩, nq, s1⟩ ⟨rfl, hx⟩
        obtain ⟨pp, hxp, hpp⟩ := ex i (by omega)
        rw [hxp] at hx
        obtain rfl := Option.some.inj hx
        have hin : i < n := by omega
        have L := hlead i hin
        have tp := s1 _ _ hpp
        have sz := lf_small hlead gy gz i (by omega)
        refine ⟨_, rfl, pp, ww, y i, rfl, .inl tp, by omega, fun k H2 kl k0 kz s2 => ?_, fun al => absurd (al _ L.lt) (Int.ne_of_gt L.pos)⟩
        obtain rfl : k = p i := lead_eq L k0 kz
        have tp2 := s2 _ _ tp
        have hrow2 := hrow.same s2
        refine ⟨_, rfl, _, rfl, ix_rowS hrow2 kl ?_⟩
        have gc : Bz 1300 (ct y p z i) := ((sz _ kl).div L.pos).le (by omega)
        refine ⟨_, rfl, _, rfl, pp, _, _, _, rfl, rfl, SqT.of tp2, at_of rfl (iV_get kl), _, _, rfl, rfl, wide_div L.pos (gy i hin _ kl) (by decide) (by decide), ?_⟩
        refine ⟨_, rfl, _, rfl, _, rfl, pl, pp, ww, ct y p z i, lf y p z i, y i, rfl, hrow2, tp2, by omega, gc.sm (by decide), fun j hj => (gy i hin j hj).sm (by decide), fun q2 H3 s3 hf3 hr3 => ?_⟩
        have hq3 := s3 _ _ (s2 _ _ hq)
        refine ⟨_, rfl, .inl ⟨rfl, _, SqL.of hq3⟩, _, rfl, q, _, _, rfl, rfl, hq3, by rw [iV_len]; exact small1000 (by omega), q, q2, _, _, _, rfl, by rw [upd_same, iV_succ]; rfl, ?_, nq, fun c o e => by rw [upd_ne (ne_of_none e nq)]; exact s3 _ _ (s2 _ _ (s1 _ _ e))⟩
        have ne : q2 ≠ q := fun e => by
          rcases hf3 with hf3 | hf3
          · exact hn2 (by rw [← hf3]; exact e)
          · rw [e, s2 _ _ hq] at hf3; cases hf3
        refine ⟨?_, ne⟩
        exact hr3.imp (fun e => by rw [upd_ne ne]; exact e) fun e => by rw [upd_ne ne]; exact e
      · rintro σ H1 ⟨q, pl, o4, o5, o6, rfl, hq, ⟨hrow, hn2⟩, nq, s1⟩
        rw [lx] at hq hrow
        refine ⟨_, rfl, pl, ww, lf y p z n, rfl, hrow, by omega, fun k H2 kl k0 kz s2 => ?_, fun al H2 s2 => ?_⟩
        · refine ⟨rfl, _, rfl, ?_⟩
          exact kk _ H2 (s1.trans s2) (.inr ⟨fun al => k0 (al k kl), rfl⟩)
        · refine ⟨rfl, _, rfl, ?_⟩
          refine ⟨_, rfl, q, _, rfl, .inl ⟨SqL.of (s2 _ _ hq), fun r nr => ?_⟩⟩
          exact kk _ _ ((s1.trans s2).trans (Same.upd nr)) (.inl ⟨al, r, rfl, upd_same⟩)
    · refine .inl ⟨_, rfl, b, rfl, ⟨_, SqL.of (s0 _ _ hb)⟩, for_it (walk_list (K := K) (a := b) (xs := xs)) (fun i σ H' => ∃ q pl o4 o5 o6, σ = [some (.ref b), some (.ref l), some (.ref q), some (.ref pl), o4, o5, o6] ∧ H' q = some (.lst (iV i (ct y p z))) ∧ RowN H' q pl ww (lf y p z i) ∧ H q = none ∧ Same H H')
        ⟨q0, l, none, none, none, rfl, upd_same, ⟨.inl (s0 _ _ hl), ne_of_none hl nq0⟩, nq0, s0⟩ (fun i σ H' _ h => by obtain ⟨_, _, _, _, _, _, _, _, _, s⟩ := h; exact SqL.of (s _ _ hb)) ?_ ?_⟩
      · rintro i x σ H1 H2 hi ⟨q, pl, o4, o5, o6, rfl, hq, ⟨hrow, hn2⟩, nq, s1⟩ ⟨rfl, hx⟩
        obtain ⟨pp, hxp, hpp⟩ := ex i (by omega)
        rw [hxp] at hx
        obtain rfl := Option.some.inj hx
        have hin : i < n := by omega
        have L := hlead i hin
        have tp := s1 _ _ hpp
        have sz := lf_small hlead gy gz i (by omega)
        refine ⟨_, rfl, pp, ww, y i, rfl, .inl tp, by omega, fun k H2 kl k0 kz s2 => ?_, fun al => absurd (al _ L.lt) (Int.ne_of_gt L.pos)⟩
        obtain rfl : k = p i := lead_eq L k0 kz
        have tp2 := s2 _ _ tp
        have hrow2 := hrow.same s2
        refine ⟨_, rfl, _, rfl, ix_rowS hrow2 kl ?_⟩
        have gc : Bz 1300 (ct y p z i) := ((sz _ kl).div L.pos).le (by omega)
        refine ⟨_, rfl, _, rfl, pp, _, _, _, rfl, rfl, SqT.of tp2, at_of rfl (iV_get kl), _, _, rfl, rfl, wide_div L.pos (gy i hin _ kl) (by decide) (by decide), ?_⟩
        refine ⟨_, rfl, _, rfl, _, rfl, pl, pp, ww, ct y p z i, lf y p z i, y i, rfl, hrow2, tp2, by omega, gc.sm (by decide), fun j hj => (gy i hin j hj).sm (by decide), fun q2 H3 s3 hf3 hr3 => ?_⟩
        have hq3 := s3 _ _ (s2 _ _ hq)
        refine ⟨_, rfl, .inl ⟨rfl, _, SqL.of hq3⟩, _, rfl, q, _, _, rfl, rfl, hq3, by rw [iV_len]; exact small1000 (by omega), q, q2, _, _, _, rfl, by rw [upd_same, iV_succ]; rfl, ?_, nq, fun c o e => by rw [upd_ne (ne_of_none e nq)]; exact s3 _ _ (s2 _ _ (s1 _ _ e))⟩
        have ne : q2 ≠ q := fun e => by
          rcases hf3 with hf3 | hf3
          · exact hn2 (by rw [← hf3]; exact e)
          · rw [e, s2 _ _ hq] at hf3; cases hf3
        refine ⟨?_, ne⟩
        exact hr3.imp (fun e => by rw [upd_ne ne]; exact e) fun e => by rw [upd_ne ne]; exact e
      · rintro σ H1 ⟨q, pl, o4, o5, o6, rfl, hq, ⟨hrow, hn2⟩, nq, s1⟩
        rw [lx] at hq hrow
        refine ⟨_, rfl, pl, ww, lf y p z n, rfl, hrow, by omega, fun k H2 kl k0 kz s2 => ?_, fun al H2 s2 => ?_⟩
        · refine ⟨rfl, _, rfl, ?_⟩
          exact kk _ H2 (s1.trans s2) (.inr ⟨fun al => k0 (al k kl), rfl⟩)
        · refine ⟨rfl, _, rfl, ?_⟩
          refine ⟨_, rfl, q, _, rfl, .inl ⟨SqL.of (s2 _ _ hq), fun r nr => ?_⟩⟩
          exact kk _ _ ((s1.trans s2).trans (Same.upd nr)) (.inl ⟨al, r, rfl, upd_same⟩)
end
end RX

set_option Elab.async false
set_option maxRecDepth 100000
set_option exponentiation.threshold 100000
namespace RX
open PySem L2 ZM
abbrev sMixed : Stmt := topS 12
theorem scMi : FnScope ["one", "count", "two", "k"] ["one", "count", "two"] (defScope sMixed) := ⟨rfl, rfl, rfl, by decide +kernel, rfl, by decide +kernel, by decide +kernel⟩
abbrev sLPieces : Stmt := topS 13
theorem scLp : FnScope ["basis", "line", "left", "counts", "one", "place", "k", "count"] ["basis", "line"] (defScope sLPieces) := ⟨rfl, rfl, rfl, by decide +kernel, rfl, by decide +kernel, by decide +kernel⟩
abbrev sAsked : Stmt := topS 14
theorem scAs : FnScope ["basis", "line", "due", "passed", "found", "k", "one"] ["basis", "line"] (defScope sAsked) := ⟨rfl, rfl, rfl, by decide +kernel, rfl, by decide +kernel, by decide +kernel⟩
def spMi : Sp := fun vs H Q _ => ∃ (p r : Addr) (w : Nat) (c : Int) (z y : Nat → Int), vs = [.ref p, .int c, .ref r] ∧ H p = some (.lst (iV w z)) ∧ H r = some (.lst (iV w y)) ∧ w ≤ 1000 ∧ Sm c ∧ (∀ j, j < w → Sm (y j)) ∧
  ∀ (q : Addr) (H' : Hp), Same H H' → H q = none → H' q = some (.lst (iV w fun j => z j + c * y j)) → Q (.ref q) H'
/-- a list of lists of integers -/
def TabL (H : Hp) (b : Addr) (n w : Nat) (y : Nat → Nat → Int) : Prop := ∃ xs : List V, H b = some (.lst xs) ∧ xs.length = n ∧ ∀ i, i < n → ∃ p : Addr, xs[i]? = some (.ref p) ∧ H p = some (.lst (iV w (y i)))
theorem TabL.same {H H' : Hp} {b : Addr} {n w : Nat} {y : Nat → Nat → Int} (h : TabL H b n w y) (s : Same H H') : TabL H' b n w y := by
  obtain ⟨xs, h1, h2, h3⟩ := h
  exact ⟨xs, s _ _ h1, h2, fun i hi => let ⟨p, e, g⟩ := h3 i hi; ⟨p, e, s _ _ g⟩⟩
structure Fits (n w : Nat) (y : Nat → Nat → Int) (p : Nat → Nat) (z : Nat → Int) : Prop where
  w6 : w ≤ 6
  n6 : n ≤ 6
  lead : ∀ i, i < n → IsLead w (y i) (p i)
  gy : ∀ i, i < n → ∀ j, j < w → Bz 171 (y i j)
  gz : ∀ j, j < w → Bz 200 (z j)
def spLp : Sp := fun vs H Q _ => ∃ (b l : Addr) (n w : Nat) (y : Nat → Nat → Int) (p : Nat → Nat) (z : Nat → Int), vs = [.ref b, .ref l] ∧ TabL H b n w y ∧ H l = some (.lst (iV w z)) ∧ Fits n w y p z ∧
  ∀ (v : V) (H' : Hp), Same H H' → OutL H' n w y p z v → Q v H'
def spAs : Sp := fun vs H Q _ => ∃ (b l : Addr) (n w : Nat) (y : Nat → Nat → Int) (p : Nat → Nat) (z : Nat → Int), vs = [.ref b, .ref l] ∧ TabL H b n w y ∧ H l = some (.lst (iV w z)) ∧ Fits n w y p z ∧
  ∀ H' : Hp, Same H H' → Q (.bl true) H'
def plc (i p : Nat) : Nat := if i ≤ p then 0 else p
theorem neV {x y : Int} (h : (!decide (V.int x = V.int y)) = true) : x ≠ y := fun e => by subst e; rw [decide_eq_true rfl] at h; cases h
theorem eqV {x y : Int} (h : ¬ (!decide (V.int x = V.int y)) = true) : x = y := Decidable.byContradiction fun n => h (by rw [decide_eq_false (fun e => n (by injection e))]; rfl)
theorem eqV' {x y : Int} (h : decide (V.int x = V.int y) = true) : x = y := by
  have := of_decide_eq_true h
  injection this
theorem neV' {x y : Int} (h : ¬ decide (V.int x = V.int y) = true) : x ≠ y := fun e => h (by rw [e]; exact decide_eq_true rfl)
def rowD (w : Nat) (z : Nat → Int) : PyData := .tuple ((List.range w).map fun j => .int (z j))
def tabD (n w : Nat) (y : Nat → Nat → Int) : PyData := .list ((List.range n).map fun i => rowD w (y i))
theorem dp_ints {K : PySem.W.Frag} {H : Hp} {z : Nat → Int} : ∀ {l : List Nat}, DpAll K H (l.map fun j => V.int (z j)) (l.map fun j => PyData.int (z j))
  | [] => .nil
  | i :: l => .cons (.int _) dp_ints
theorem dp_row {K : PySem.W.Frag} {H : Hp} {p : Addr} {w : Nat} {z : Nat → Int} (h : H p = some (.tup (iV w z))) : Dp K H (.ref p) (rowD w z) := .tup (SqT.of h) dp_ints
theorem dp_map {K : PySem.W.Frag} {H : Hp} {f : Nat → PyData} : ∀ {xs : List V} {l : Nat}, (∀ i, i < xs.length → ∃ v, xs[i]? = some v ∧ Dp K H v (f (l + i))) → DpAll K H xs ((List.range' l xs.length).map f)
  | [], _, _ => .nil
  | x :: xs, l, h => by
    obtain ⟨v, e, d⟩ := h 0 (by simp)
    obtain rfl := Option.some.inj e
    refine .cons d (dp_map fun i hi => ?_)
    obtain ⟨v, e, d⟩ := h (i + 1) (by simp; omega)
    exact ⟨v, e, by rw [show l + 1 + i = l + (i + 1) by omega]; exact d⟩
theorem dp_tab {K : PySem.W.Frag} {H : Hp} {b : Addr} {xs : List V} {n w : Nat} {y : Nat → Nat → Int} (h : H b = some (.lst xs)) (l : xs.length = n) (e : ∀ i, i < n → ∃ p : Addr, xs[i]? = some (.ref p) ∧ H p = some (.tup (iV w (y i)))) : Dp K H (.ref b) (tabD n w y) := by
  refine .lst (SqL.of h) ?_
  have := dp_map (K := K) (H := H) (f := fun i => rowD w (y i)) (xs := xs) (l := 0) fun i hi => by
    obtain ⟨p, e1, e2⟩ := e i (by omega)
    exact ⟨_, e1, by rw [Nat.zero_add]; exact dp_row e2⟩
  rw [l, ← List.range_eq_range'] at this
  exact this
theorem lay_map {f : Nat → PyData} (h : ∀ i, (f i).canLay0 = true) : ∀ l : List Nat, PyData.canLayAll0 (l.map f) = true
  | [] => by simp [PyData.canLayAll0]
  | i :: l => by simp [PyData.canLayAll0, h i, lay_map h l]
theorem depth_map {f : Nat → PyData} {k : Nat} (h : ∀ i, (f i).depth ≤ k) : ∀ l : List Nat, PyData.depthAll (l.map f) ≤ k
  | [] => by simp [PyData.depthAll]
  | i :: l => by
    have h1 := h i
    have h2 := depth_map h l
    simp only [List.map_cons, PyData.depthAll]
    omega
theorem eqv_map {f : Nat → PyData} (h : ∀ i, PyData.eqv (f i) (f i) = true) : ∀ l : List Nat, PyData.eqvAll (l.map f) (l.map f) = true
  | [] => by simp [PyData.eqvAll]
  | i :: l => by simp [PyData.eqvAll, h i, eqv_map h l]
theorem rowD_ok (w : Nat) (z : Nat → Int) : (rowD w z).canLay0 = true ∧ (rowD w z).depth ≤ 2 ∧ PyData.eqv (rowD w z) (rowD w z) = true := by
  refine ⟨?_, ?_, ?_⟩
  · unfold rowD
    simp only [PyData.canLay0]
    exact lay_map (f := fun j => .int (z j)) (fun i => by simp [PyData.canLay0]) _
  · unfold rowD
    simp only [PyData.depth]
    have := depth_map (f := fun j => PyData.int (z j)) (k := 1) (fun i => by simp [PyData.depth]) (List.range w)
    omega
  · unfold rowD
    simp only [PyData.eqv]
    exact eqv_map (f := fun j => .int (z j)) (fun i => by simp [PyData.eqv]) _
theorem shaped_of {d : PyData} (h : d.canLay0 = true) (l : d.depth ≤ 64) : SeqAt.shaped d = true := by
  show (d.canLay0 && decide (d.depth ≤ 64)) = true
  rw [Bool.and_eq_true]
  exact ⟨h, decide_eq_true l⟩
theorem tabD_ok (n w : Nat) (y : Nat → Nat → Int) : SeqAt.shaped (tabD n w y) = true ∧ PyData.eqv (tabD n w y) (tabD n w y) = true := by
  refine ⟨shaped_of ?_ ?_, ?_⟩
  · unfold tabD
    simp only [PyData.canLay0]
    exact lay_map (fun i => (rowD_ok _ _).1) _
  · unfold tabD
    simp only [PyData.depth]
    have := depth_map (f := fun i => rowD w (y i)) (k := 2) (fun i => (rowD_ok _ _).2.1) (List.range n)
    omega
  · unfold tabD
    simp only [PyData.eqv]
    exact eqv_map (f := fun i => rowD w (y i)) (fun i => (rowD_ok _ _).2.2) _
theorem outT_dp {K : PySem.W.Frag} {H : Hp} {n w : Nat} {y : Nat → Nat → Int} {p : Nat → Nat} {z : Nat → Int} {u v : V} (a : OutT H n w y p z u) (b : OutT H n w y p z v) : ∃ d, Dp K H u d ∧ Dp K H v d ∧ SeqAt.shaped d = true ∧ PyData.eqv d d = true := by
  rcases a with ⟨t, r, rfl, a⟩ | ⟨t, rfl⟩
  · rcases b with ⟨_, r2, rfl, b⟩ | ⟨t2, _⟩
    · have ok := rowD_ok n (ct y p z)
      exact ⟨_, dp_row a, dp_row b, shaped_of ok.1 (by omega), ok.2.2⟩
    · exact absurd t t2
  · rcases b with ⟨t2, _⟩ | ⟨_, rfl⟩
    · exact absurd t2 t
    · exact ⟨.none, .non, .non, by decide +kernel, by simp [PyData.eqv]⟩
section
variable {P : Program} {w : World} {K : PySem.W.Frag} {mg : Str → Option Value} {base : Heap}
theorem ok_mi {f : Addr} {fd : FuncData} (F : Fun K "_law_mixed" "_law_mixed" sMixed f fd) (T : TxtL mg) : FnOk P w K mg base CX0 1 f fd ["one", "count", "two"] spMi := by
  refine F.ok scMi (fun vs H Q E h => ?_) (fun cdv A outer s H vs Q E hr h => ?_)
  · obtain ⟨p, r, w, c, z, y, rfl, _⟩ := h
    rfl
  · obtain ⟨p, r, ww, c, z, y, rfl, hp, hr', hw, gc, gy, k⟩ := h
    refine ⟨_, pss_one (ps_ret (pe_lc (own := [("k", 3)]) (g := gName 3) (tt := tYes) rfl scMi.nd (pi_range1 (by rfl) T.range (pa_cons (pe_callB call_len_seq (by rfl) T.len PySem.boot_len (pa_cons (pv 0) pa_nil)) pa_nil)) (blkOk_by (N := ["one", "count", "two", "k"]) (sc := (defScope sMixed)) (by decide +kernel)) (fun _ _ _ _ _ => (pg_name (i := 3) scMi.nd rfl (.inl rfl))) (fun _ _ _ _ _ => pts_nil) (fun _ _ _ _ _ => (pe_op op_add (pe_ix (show IxR _ (rIxL K) from ix_list) (pv 0) (pv 3) (fun _ _ => rfl)) (pe_op op_mulW (pv 1) (pe_ix (show IxR _ (rIxL K) from ix_list) (pv 2) (pv 3) (fun _ _ => rfl))))))), ?_⟩
    refine ⟨_, rfl, p, _, rfl, .inl (SqL.of hp), _, rfl, by rw [iV_len]; omega, by rw [iV_len]; omega, fun D nD => ?_⟩
    rw [iV_len]
    refine lc_it (walk_range (lo := 0) (n := ((ww : Nat) : Int).toNat)) (fun j H' => H' D = some (.lst (iV j fun j => z j + c * y j)) ∧ Same H H') ⟨upd_same, Same.upd nD⟩ (fun _ _ _ _ => trivial) ?_ ?_
    · rintro j v H3 H4 hj ⟨hG, s3⟩ ⟨rfl, rfl⟩
      have hj : j < ww := by omega
      refine ⟨rfl, _, rfl, _, rfl, p, _, _, _, rfl, rfl, SqL.of (s3 _ _ hp), at_of (Int.zero_add _) (iV_get hj), _, rfl, _, rfl, _, rfl, r, _, _, _, rfl, rfl, SqL.of (s3 _ _ hr'), at_of (Int.zero_add _) (iV_get hj), _, _, rfl, rfl, gc.w (gy j hj), _, _, rfl, rfl, _, hG, ?_, ?_, ?_⟩
      · rw [iV_len]; exact small1000 (by omega)
      · rw [upd_same, iV_succ]
      · intro b o e
        rw [upd_ne (ne_of_none e nD)]
        exact s3 _ _ e
    · rintro H2 ⟨hG, s2⟩
      rw [Int.toNat_natCast] at hG
      exact k D H2 s2 nD hG
theorem ok_lp {f fM : Addr} {fd dM : FuncData} (F : Fun K "_law_pieces" "_law_pieces" sLPieces f fd) (T : TxtL mg) (ml : mg "list" = none) (cMi : CalN P w K mg base "_law_mixed" 1 ["one", "count", "two"] spMi fM dM) :
    FnOk P w K mg base CX0 2 f fd ["basis", "line"] spLp := by
  refine F.ok scLp (fun vs H Q E h => ?_) (fun cdv A outer s H vs Q E hr h => ?_)
  · obtain ⟨b, l, n, w, y, p, z, rfl, _⟩ := h
    rfl
  · obtain ⟨b, l, n, ww, y, p, z, rfl, ⟨xs, hb, lx, ex⟩, hl, ft, kk⟩ := h
    have hr1 : Room 1 _ := hr.mono (by decide)
    have w6 := ft.w6
    have n6 := ft.n6
    refine ⟨_, pss_cons (ps_set (i := 2) scLp.nd rfl (.inl rfl) (pe_callTy (T := "list") (show CallR _ (.type "list") (rLstO K) from call_listK) (by rfl) ml (by decide +kernel) (pa_cons (pv 1) pa_nil)))
      (pss_cons (ps_set (i := 3) scLp.nd rfl (.inl rfl) (pe_lst pa_nil))
      (pss_cons (ps_for PassesOwn.never rfl (pi_list (pv 0)) (pg_name (i := 4) scLp.nd rfl (.inl rfl))
        (pss_cons (ps_set (i := 5) scLp.nd rfl (.inl rfl) pe_int)
        (pss_cons (ps_for PassesOwn.never rfl (pi_range1 (by rfl) T.range (pa_cons (pe_callB call_len_seq (by rfl) T.len PySem.boot_len (pa_cons (pv 4) pa_nil)) pa_nil)) (pg_name (i := 6) scLp.nd rfl (.inl rfl))
          (pss_one (ps_if (PW.pt (pw_and (pt_cmpR op_ne (pe_ix ix_list (pv 4) (pv 6) (fun _ _ => rfl)) pe_int (nomark _)) (pw_and1 (pt_cmpR op_eq (pe_ix ix_list (pv 4) (pv 5) (fun _ _ => rfl)) pe_int (nomark _)))))
            (pss_one (ps_set (i := 5) scLp.nd rfl (.inl rfl) (pv 6)))
            pss_nil)))
        (pss_cons (ps_set (i := 7) scLp.nd rfl (.inl rfl) (pe_op op_fdivW (pe_ix ix_list (pv 2) (pv 5) (fun _ _ => rfl)) (pe_ix ix_list (pv 4) (pv 5) (fun _ _ => rfl))))
        (pss_cons (ps_set (i := 2) scLp.nd rfl (.inl rfl) (pe_call cMi.G hr1 rfl cMi.m cMi.kp cMi.b .nil pass0 (pa_cons (pv 2) (pa_cons (pe_op op_sub pe_int (pv 7)) (pa_cons (pv 4) pa_nil)))))
        (pss_one (ps_expr (pe_bm PySem.F.plainAttrs_list PySem.F.slot_list_append PySem.F.type_list_append mt_append (pv 3) (pa_cons (pv 7) pa_nil)))))))))
      (pss_cons (ps_for PassesOwn.never rfl (pi_list (pv 2)) (pg_name (i := 4) scLp.nd rfl (.inl rfl))
        (pss_one (ps_if (pt_cmpR op_ne (pv 4) pe_int (nomark _))
          (pss_one (ps_ret pe_non))
          pss_nil)))
      (pss_one (ps_ret (pv 3)))))), ?_⟩
    refine ⟨_, rfl, l, _, rfl, .inl (SqL.of hl), fun q0 nq0 => ?_⟩
    have s0 : Same H (upd H q0 (.lst (iV ww z))) := Same.upd nq0
    refine ⟨(by show 0 ≤ sizeLine; decide), fun c0 nc0 => ?_⟩
    have s00 := s0.trans (Same.upd (o := .lst []) nc0)
    refine ⟨_, rfl, b, rfl, ⟨_, SqL.of (s00 _ _ hb)⟩, for_list (xs := xs) (fun i σ H' => ∃ lf' cq o4 o5 o6 o7, σ = [some (.ref b), some (.ref l), some (.ref lf'), some (.ref cq), o4, o5, o6, o7] ∧ H' cq = some (.lst (iV i (ct y p z))) ∧ H' lf' = some (.lst (iV ww (lf y p z i))) ∧ lf' ≠ cq ∧ H cq = none ∧ Same H H')
      ⟨q0, c0, none, none, none, none, rfl, upd_same, by rw [upd_ne (ne_of_none upd_same nc0)]; exact upd_same, ne_of_none upd_same nc0, s0.free nc0, s00⟩ (fun i σ H' _ h => by obtain ⟨_, _, _, _, _, _, _, _, _, _, _, s⟩ := h; exact SqL.of (s _ _ hb)) ?_ ?_⟩
    · rintro i x σ H1 hx ⟨lq, cq, o4, o5, o6, o7, rfl, hc, hlq, ne, nc, s1⟩
      have hin : i < n := by
        have := (List.getElem?_eq_some_iff.mp hx).1
        omega
      obtain ⟨pp, hxp, hpp⟩ := ex i hin
      rw [hxp] at hx
      obtain rfl := Option.some.inj hx
      have L := ft.lead i hin
      have tp := s1 _ _ hpp
      have sz := lf_small ft.lead ft.gy ft.gz i (by omega)
      refine ⟨_, rfl, pp, _, rfl, .inl (SqL.of tp), _, rfl, by rw [iV_len]; omega, by rw [iV_len]; omega, ?_⟩
      rw [iV_len]
      refine for_range (n := ((ww : Nat) : Int).toNat) (fun k σ H' => ∃ o6, σ = [some (.ref b), some (.ref l), some (.ref lq), some (.ref cq), some (.ref pp), some (.int ((plc k (p i) : Nat) : Int)), o6, o7] ∧ H' = H1) ⟨o6, rfl, rfl⟩ ?_ ?_
      · rintro k σ H2 hk ⟨o6, rfl, rfl⟩
        have hk : k < ww := by omega
        have kp : plc k (p i) < ww := by unfold plc; split; omega; exact L.lt
        refine ⟨_, rfl, _, rfl, pp, _, _, _, rfl, rfl, SqL.of tp, at_of (Int.zero_add _) (iV_get hk), rfl, _, rfl, ?_⟩
        have stay : plc (k + 1) (p i) = plc k (p i) → ∃ o6', ([some (.ref b), some (.ref l), some (.ref lq), some (.ref cq), some (.ref pp), some (.int ((plc k (p i) : Nat) : Int)), some (.int (0 + (k : Int))), o7] : St) = [some (.ref b), some (.ref l), some (.ref lq), some (.ref cq), some (.ref pp), some (.int ((plc (k + 1) (p i) : Nat) : Int)), o6', o7] ∧ H2 = H2 := fun e => ⟨_, by rw [e], rfl⟩
        refine ite2 (fun hA => ?_) (fun hA => ?_)
        · have hA := neV hA
          refine ⟨_, rfl, _, rfl, pp, _, _, _, rfl, rfl, SqL.of tp, at_of rfl (iV_get kp), rfl, _, rfl, ?_⟩
          refine ite2 (fun hB => ?_) (fun hB => ?_)
          · have hB := eqV' hB
            have le : k ≤ p i := Decidable.byContradiction fun h => by
              unfold plc at hB
              rw [if_neg h] at hB
              exact absurd hB (Int.ne_of_gt L.pos)
            have ge : ¬ k < p i := fun h => hA (L.zero k h)
            refine ⟨_, rfl, some (.int (0 + (k : Int))), ?_, rfl⟩
            show ([_, _, _, _, _, some (V.int (0 + (k : Int))), _, _] : St) = _
            rw [show plc (k + 1) (p i) = k by unfold plc; rw [if_neg (by omega)]; omega, Int.zero_add]
          · have hB := neV' hB
            refine stay ?_
            by_cases le : k ≤ p i
            · have e0 : plc k (p i) = 0 := by unfold plc; rw [if_pos le]
              rw [e0] at hB ⊢
              have p0 : ¬ 0 < p i := fun h => hB (L.zero 0 h)
              unfold plc
              split <;> omega
            · unfold plc
              rw [if_neg le, if_neg (by omega)]
        · have hA := eqV hA
          refine stay ?_
          have ne : k ≠ p i := fun e => by rw [e] at hA; exact absurd hA (Int.ne_of_gt L.pos)
          unfold plc
          by_cases le : k ≤ p i
          · rw [if_pos le, if_pos (by omega)]
          · rw [if_neg le, if_neg (by omega)]
      · rintro σ H2 ⟨o6, rfl, rfl⟩
        have ep : plc ((ww : Nat) : Int).toNat (p i) = p i := by
          have := L.lt
          unfold plc
          rw [if_neg (by omega)]
        rw [ep]
        have gc : Bz 1300 (ct y p z i) := ((sz _ L.lt).div L.pos).le (by omega)
        refine ⟨_, rfl, _, rfl, lq, _, _, _, rfl, rfl, SqL.of hlq, at_of rfl (iV_get L.lt), _, rfl, _, rfl, pp, _, _, _, rfl, rfl, SqL.of tp, at_of rfl (iV_get L.lt), _, _, rfl, rfl, wide_div L.pos (ft.gy i hin _ L.lt) (by decide) (by decide), ?_⟩
        have gc2 : Bz 1300 (0 - ct y p z i) := by unfold Bz at *; omega
        refine ⟨_, rfl, _, rfl, _, _, rfl, rfl, _, rfl, lq, pp, ww, 0 - ct y p z i, lf y p z i, y i, rfl, hlq, tp, by omega, gc2.sm (by decide), fun j hj => (ft.gy i hin j hj).sm (by decide), fun q2 H3 s3 nq2 hr3 => ?_⟩
        have hc3 := s3 _ _ hc
        have n2 : q2 ≠ cq := fun e => by rw [e, hc] at nq2; cases nq2
        refine ⟨_, rfl, .inl ⟨rfl, _, SqL.of hc3⟩, _, rfl, cq, _, _, rfl, rfl, hc3, by rw [iV_len]; exact small1000 (by omega), q2, cq, _, _, _, _, rfl, by rw [upd_same, iV_succ]; rfl, ?_, n2, nc, fun c o e => by rw [upd_ne (ne_of_none e nc)]; exact s3 _ _ (s1 _ _ e)⟩
        rw [upd_ne n2, hr3]
        congr 2
        refine iV_ext fun j _ => ?_
        show lf y p z i j + (0 - ct y p z i) * y i j = lf y p z i j - ct y p z i * y i j
        rw [Int.zero_sub, Int.neg_mul, Int.sub_eq_add_neg]
    · rintro σ H1 ⟨lq, cq, o4, o5, o6, o7, rfl, hc, hlq, ne, nc, s1⟩
      rw [lx] at hc hlq
      refine ⟨_, rfl, lq, rfl, ⟨_, SqL.of hlq⟩, for_list (xs := iV ww (lf y p z n)) (fun i σ H' => ∃ o4, σ = [some (.ref b), some (.ref l), some (.ref lq), some (.ref cq), o4, o5, o6, o7] ∧ H' = H1 ∧ ∀ j, j < i → lf y p z n j = 0)
        ⟨o4, rfl, rfl, fun j hj => absurd hj (by omega)⟩ (fun i σ H' _ h => by obtain ⟨_, _, e, _⟩ := h; rw [e]; exact SqL.of hlq) ?_ ?_⟩
      · rintro i x σ H2 hx ⟨o4, rfl, rfl, zz⟩
        obtain ⟨hi, rfl⟩ := iV_lt hx
        refine ⟨_, rfl, rfl, _, rfl, ite2 (fun hA => ?_) (fun hA => ?_)⟩
        · exact kk _ _ s1 (.inr ⟨fun al => neV hA (al i hi), rfl⟩)
        · refine ⟨_, rfl, rfl, fun j hj => ?_⟩
          by_cases e : j = i
          · rw [e]; exact eqV hA
          · exact zz j (by omega)
      · rintro σ H2 ⟨o4, rfl, rfl, zz⟩
        rw [iV_len] at zz
        exact ⟨_, rfl, kk _ _ s1 (.inl ⟨zz, cq, rfl, hc⟩)⟩
end
end RX

set_option Elab.async false
set_option maxRecDepth 100000
set_option exponentiation.threshold 100000
namespace RX
open PySem L2 ZM
/-- a list of tuples of integers -/
def TabP (H : Hp) (b : Addr) (n w : Nat) (y : Nat → Nat → Int) : Prop := ∃ xs : List V, H b = some (.lst xs) ∧ xs.length = n ∧ ∀ i, i < n → ∃ p : Addr, xs[i]? = some (.ref p) ∧ H p = some (.tup (iV w (y i)))
theorem TabP.same {H H' : Hp} {b : Addr} {n w : Nat} {y : Nat → Nat → Int} (h : TabP H b n w y) (s : Same H H') : TabP H' b n w y := by
  obtain ⟨xs, h1, h2, h3⟩ := h
  exact ⟨xs, s _ _ h1, h2, fun i hi => let ⟨p, e, g⟩ := h3 i hi; ⟨p, e, s _ _ g⟩⟩
theorem TabP.s {H : Hp} {b : Addr} {n w : Nat} {y : Nat → Nat → Int} (h : TabP H b n w y) : TabS H b n w y := by
  obtain ⟨xs, h1, h2, h3⟩ := h
  exact ⟨xs, .inr h1, h2, h3⟩
theorem tabP_of {H : Hp} {b : Addr} {n w : Nat} {y : Nat → Nat → Int} (h : At Emp H (.ref b) (.lst (rng n fun i => intT w (y i)))) : TabP H b n w y := by
  obtain ⟨xs, hp, l, e⟩ := At.lstR h
  refine ⟨xs, hp, l, fun i hi => ?_⟩
  obtain ⟨x, hx, hd⟩ := e i hi
  obtain ⟨p, rfl⟩ := At.tupV hd
  exact ⟨p, hx, At.intsT hd⟩
section
variable {P : Program} {w : World} {K : PySem.W.Frag} {mg : Str → Option Value} {base : Heap}
/-- one turn of [tuple(one) for one in basis] -/
theorem tup_turn {G1 H1 : Hp} {D r : Addr} {i n ww : Nat} {y : Nat → Nat → Int} (hi : i < 6) (nD : H1 D = none) (bd : Bld Emp Emp H1 D (rng i fun i => intT ww (y i)) G1) (nr : G1 r = none) :
    ∃ acc, (upd G1 r (.tup (iV ww (y i)))) D = some (.lst acc) ∧ acc.length < sizeLine ∧ Bld Emp Emp H1 D (rng (i + 1) fun i => intT ww (y i)) (upd (upd G1 r (.tup (iV ww (y i)))) D (.lst (acc ++ [.ref r]))) := by
  obtain ⟨acc, h1, h2, h3⟩ := bd.step nD (Keep.new (N := Emp) (o := .tup (iV ww (y i))) nr) (fun _ h => h) id (at_intsT upd_same ((bd.alc alc_emp).fresh nr))
  refine ⟨acc, h1, by rw [h2, rng_len]; exact small1000 (by omega), ?_⟩
  rw [rng_succ]
  exact h3
theorem ok_as {f fL fP fI : Addr} {fd dL dP dI : FuncData} (F : Fun K "_law_asked" "_law_asked" sAsked f fd) (T : TxtL mg) (mt : mg "tuple" = none)
    (cLp : CalN P w K mg base "_law_pieces" 2 ["basis", "line"] spLp fL dL) (cPi : CalN P w K mg base "pieces" 2 ["basis", "row"] spPi fP dP) (cIs : CalN P w K mg base "_law_is_integer" 1 ["actual"] spIsInt fI dI) :
    FnOk P w K mg base CX0 3 f fd ["basis", "line"] spAs := by
  refine F.ok scAs (fun vs H Q E h => ?_) (fun cdv A outer s H vs Q E hr h => ?_)
  · obtain ⟨b, l, n, w, y, p, z, rfl, _⟩ := h
    rfl
  · obtain ⟨b, l, n, ww, y, p, z, rfl, tab, hl, ft, kk⟩ := h
    have hr1 : Room 1 _ := hr.mono (by decide)
    have hr2 : Room 2 _ := hr.mono (by decide)
    have w6 := ft.w6
    have n6 := ft.n6
    refine ⟨_, pss_cons (ps_set (i := 2) scAs.nd rfl (.inl rfl) (pe_call cLp.G hr2 rfl cLp.m cLp.kp cLp.b .nil pass0 (pa_cons (pv 0) (pa_cons (pv 1) pa_nil))))
      (pss_cons (ps_setLc (i := 3) (own := [("one", 6)]) (g := gName 6) (tt := tYes) rfl scAs.nd rfl rfl (sw_true rfl rfl rfl (by decide +kernel)) (pi_list (pv 0)) (blkOk_by (N := ["basis", "line", "due", "passed", "found", "k", "one"]) (sc := (defScope sAsked)) (by decide +kernel)) (fun _ _ _ _ _ => (pg_name (i := 6) scAs.nd rfl (.inl rfl))) (fun _ _ _ _ _ => pts_nil) (fun _ _ _ _ _ => (pe_callTy (T := "tuple") (show CallR _ (.type "tuple") (rTupO K) from call_tupK) (by rfl) mt (by decide +kernel) (pa_cons (pv 6) pa_nil))))
      (pss_cons (ps_set (i := 4) scAs.nd rfl (.inl rfl) (pe_call cPi.G hr2 rfl cPi.m cPi.kp cPi.b .nil pass0 (pa_cons (pv 3) (pa_cons (pe_callTy (T := "tuple") call_tuple_of (by rfl) mt (by decide +kernel) (pa_cons (pv 1) pa_nil)) pa_nil))))
      (pss_cons (ps_if (PW.pt (pw_or (pt_cmpR (op_neD hr.units) (pv 3) (pe_lc (own := [("one", 6)]) (g := gName 6) (tt := tYes) rfl scAs.nd (pi_list (pv 0)) (blkOk_by (N := ["basis", "line", "due", "passed", "found", "k", "one"]) (sc := (defScope sAsked)) (by decide +kernel)) (fun _ _ _ _ _ => (pg_name (i := 6) scAs.nd rfl (.inl rfl))) (fun _ _ _ _ _ => pts_nil) (fun _ _ _ _ _ => (pe_callTy (T := "tuple") (show CallR _ (.type "tuple") (rTupO K) from call_tupK) (by rfl) mt (by decide +kernel) (pa_cons (pv 6) pa_nil)))) (nomark _)) (pw_or1 (pt_cmpR (op_neD hr.units) (pe_call cPi.G hr2 rfl cPi.m cPi.kp cPi.b .nil pass0 (pa_cons (pe_callTy (T := "tuple") call_tuple_of (by rfl) mt (by decide +kernel) (pa_cons (pv 3) pa_nil)) (pa_cons (pe_callTy (T := "tuple") call_tuple_of (by rfl) mt (by decide +kernel) (pa_cons (pv 1) pa_nil)) pa_nil))) (pv 4) (nomark _)))))
        (pss_one ps_never)
        pss_nil)
      (C8.pss_cut (ps_if (PW.pt (pw_or (pt_cmpR op_isN1 (pv 2) pe_non (nomark _)) (pw_or1 (pt_cmpR op_isN1 (pv 4) pe_non (nomark _)))))
        (pss_one (ps_ret (pe_and (pe_cmpR op_isN1 (pv 2) pe_non (nomark _)) (pe_one (pe_cmpR op_isN1 (pv 4) pe_non (nomark _))))))
        pss_nil)
      (pss_cons (ps_if (PW.pt (pw_or (pt_not (pt_val (pe_callB call_isi (by rfl) T.isi (by decide +kernel) (pa_cons (pv 4) (pa_cons (pe_bltn (v := .ty "tuple") (by rfl) mt (by decide +kernel) rfl) pa_nil))))) (pw_or1 (pt_cmpR op_ne (pe_callB call_len_seq (by rfl) T.len PySem.boot_len (pa_cons (pv 4) pa_nil)) (pe_callB call_len_seq (by rfl) T.len PySem.boot_len (pa_cons (pv 2) pa_nil)) (nomark _)))))
        (pss_one ps_never)
        pss_nil)
      (pss_cons (ps_for PassesOwn.never rfl (pi_range1 (by rfl) T.range (pa_cons (pe_callB call_len_seq (by rfl) T.len PySem.boot_len (pa_cons (pv 2) pa_nil)) pa_nil)) (pg_name (i := 5) scAs.nd rfl (.inl rfl))
        (pss_one (ps_if (PW.pt (pw_or (pt_not (pt_val (pe_call cIs.G hr1 rfl cIs.m cIs.kp cIs.b .nil pass0 (pa_cons (pe_ix ix_tup (pv 4) (pv 5) (fun _ _ => rfl)) pa_nil)))) (pw_or1 (pt_cmpR op_ne (pe_ix ix_tup (pv 4) (pv 5) (fun _ _ => rfl)) (pe_ix ix_list (pv 2) (pv 5) (fun _ _ => rfl)) (nomark _)))))
          (pss_one ps_never)
          pss_nil)))
      (pss_one (ps_ret pe_bl)))))))), ?_⟩
    refine ⟨_, rfl, _, rfl, b, l, n, ww, y, p, z, rfl, tab, hl, ft, fun due H1 s1 hdue => ?_⟩
    obtain ⟨xs, hb, lx, ex⟩ := tab.same s1
    refine ⟨_, rfl, b, rfl, ⟨_, SqL.of hb⟩, fun D nD => ?_⟩
    refine lc_it (walk_list (K := K) (a := b) (xs := xs)) (fun i G => Bld Emp Emp H1 D (rng i fun i => intT ww (y i)) G) (bld0 nD) (fun i G _ bd => SqL.of (bd.k.same _ _ hb)) ?_ ?_
    · rintro i x G1 G2 hi bd ⟨rfl, hx⟩
      obtain ⟨pp, hxp, hpp⟩ := ex i (by omega)
      rw [hxp] at hx
      obtain rfl := Option.some.inj hx
      exact ⟨rfl, _, rfl, pp, _, rfl, .inl ⟨SqL.of (bd.k.same _ _ hpp), fun r nr => tup_turn (n := n) (by omega) nD bd nr⟩⟩
    rintro H2 bd
    rw [lx] at bd
    have tp := tabP_of (bd.done id)
    have s2 : Same H1 H2 := bd.k.same
    have hl2 := s2 _ _ (s1 _ _ hl)
    refine ⟨_, rfl, _, rfl, l, _, rfl, .inl ⟨SqL.of hl2, fun t nt => ?_⟩⟩
    have s3 : Same H2 (upd H2 t (.tup (iV ww z))) := Same.upd nt
    refine ⟨D, t, n, ww, y, p, z, rfl, (tp.same s3).s, upd_same, w6, n6, ft.lead, ft.gy, ft.gz, fun v H3 s4 hv => ?_⟩
    have s14 := s2.trans (s3.trans s4)
    have tp3 := (tp.same s3).same s4
    have hb3 := s14 _ _ hb
    refine ⟨_, rfl, _, rfl, b, rfl, ⟨_, SqL.of hb3⟩, fun D2 nD2 => ?_⟩
    refine lc_it (walk_list (K := K) (a := b) (xs := xs)) (fun i G => Bld Emp Emp H3 D2 (rng i fun i => intT ww (y i)) G) (bld0 nD2) (fun i G _ bd => SqL.of (bd.k.same _ _ hb3)) ?_ ?_
    · rintro i x G1 G2 hi bd ⟨rfl, hx⟩
      obtain ⟨pp, hxp, hpp⟩ := ex i (by omega)
      rw [hxp] at hx
      obtain rfl := Option.some.inj hx
      exact ⟨rfl, _, rfl, pp, _, rfl, .inl ⟨SqL.of (bd.k.same _ _ (s14 _ _ hpp)), fun r nr => tup_turn (n := n) (by omega) nD2 bd nr⟩⟩
    rintro H4 bd2
    rw [lx] at bd2
    have tp2 := tabP_of (bd2.done id)
    have s5 : Same H3 H4 := bd2.k.same
    obtain ⟨ys, hD, ly, ey⟩ := tp3.same s5
    obtain ⟨us, hD2, lu, eu⟩ := tp2
    refine ⟨tabD n ww y, tabD n ww y, dp_tab hD ly ey, dp_tab hD2 lu eu, (tabD_ok _ _ _).1, (tabD_ok _ _ _).1, _, rfl, ?_⟩
    refine itF (by rw [(tabD_ok _ _ _).2]; rfl) ?_
    have hl4 := s5 _ _ (s4 _ _ (s3 _ _ hl2))
    refine ⟨_, rfl, D, _, rfl, .inl ⟨SqL.of hD, fun t2 nt2 => ?_⟩⟩
    have s6 : Same H4 (upd H4 t2 (.tup ys)) := Same.upd nt2
    refine ⟨_, rfl, l, _, rfl, .inl ⟨SqL.of (s6 _ _ hl4), fun t3 nt3 => ?_⟩⟩
    have s7 : Same (upd H4 t2 (.tup ys)) (upd (upd H4 t2 (.tup ys)) t3 (.tup (iV ww z))) := Same.upd nt3
    refine ⟨t2, t3, n, ww, y, p, z, rfl, ⟨ys, .inl (s7 _ _ upd_same), ly, fun i hi => ?_⟩, upd_same, w6, n6, ft.lead, ft.gy, ft.gz, fun v2 H5 s8 hv2 => ?_⟩
    · obtain ⟨p, e1, e2⟩ := ey i hi
      exact ⟨p, e1, s7 _ _ (s6 _ _ e2)⟩
    have s38 := s5.trans (s6.trans (s7.trans s8))
    have hv5 := hv.same s38
    obtain ⟨d, d1, d2, sh, eq⟩ := outT_dp (K := K) hv2 hv5
    refine ⟨_, rfl, d, d, d1, d2, sh, sh, _, rfl, ?_⟩
    refine itF (by rw [eq]; rfl) ?_
    have hdue5 := (hdue.same s14).same s38
    have sA : Same H H5 := s1.trans (s14.trans s38)
    rcases hdue5 with ⟨t0, dq, rfl, hd⟩ | ⟨t0, rfl⟩
    · rcases hv5 with ⟨_, r, rfl, hR⟩ | ⟨t1, _⟩
      · refine ⟨fun σ' H' => σ' = [some (.ref b), some (.ref l), some (.ref dq), some (.ref D), some (.ref r), none, none] ∧ H' = H5, ?_, ?_⟩
        · refine ⟨_, rfl, rfl, _, rfl, ?_⟩
          refine itF rfl ?_
          refine ⟨_, rfl, rfl, _, rfl, ?_⟩
          refine itF rfl ?_
          exact ⟨rfl, rfl⟩
        rintro σ' H6 ⟨rfl, rfl⟩
        refine ⟨_, rfl, _, _, _, _, true, rfl, .ty _, .base (.tup hR), kit_ty (by decide +kernel), true, rfl, ?_⟩
        refine iteF ?_
        refine ⟨_, rfl, r, _, rfl, .inr (SqT.of hR), _, rfl, dq, _, rfl, .inl (SqL.of hd), rfl, _, rfl, ?_⟩
        refine itF (by first | (rw [decide_eq_true rfl]; rfl) | (rw [iV_len, iV_len, decide_eq_true rfl]; rfl)) ?_
        refine ⟨_, rfl, dq, _, rfl, .inl (SqL.of hd), _, rfl, by rw [iV_len]; omega, by rw [iV_len]; omega, ?_⟩
        rw [iV_len]
        refine for_range (n := ((n : Nat) : Int).toNat) (fun i σ H' => ∃ o, σ = [some (.ref b), some (.ref l), some (.ref dq), some (.ref D), some (.ref r), o, none] ∧ H' = H6) ⟨none, rfl, rfl⟩ ?_ ?_
        · rintro i σ H7 hi ⟨o, rfl, rfl⟩
          have hi : i < n := by omega
          have aR : atI (iV n (ct y p z)) (0 + (i : Int)) = some (.int (ct y p z i)) := at_of (Int.zero_add _) (iV_get hi)
          refine ⟨_, rfl, _, rfl, r, _, _, _, rfl, rfl, SqT.of hR, aR, _, rfl, true, rfl, ?_⟩
          refine iteF ?_
          refine ⟨_, rfl, _, rfl, r, _, _, _, rfl, rfl, SqT.of hR, aR, _, rfl, _, rfl, dq, _, _, _, rfl, rfl, SqL.of hd, aR, rfl, _, rfl, ?_⟩
          refine itF (by rw [decide_eq_true rfl]; rfl) ?_
          exact ⟨_, rfl, rfl⟩
        · rintro σ H7 ⟨o, rfl, rfl⟩
          exact kk H7 sA
      · exact absurd t0 t1
    · rcases hv5 with ⟨t1, _⟩ | ⟨_, rfl⟩
      · exact absurd t1 t0
      · refine ⟨fun _ _ => False, ?_, fun _ _ h => h.elim⟩
        refine ⟨_, rfl, rfl, _, rfl, ?_⟩
        refine itT rfl ?_
        refine ⟨_, rfl, rfl, _, rfl, ?_⟩
        refine iteT ?_
        exact ⟨_, rfl, rfl, kk H5 sA⟩
end
end RX

set_option Elab.async false
set_option maxRecDepth 100000
set_option exponentiation.threshold 100000
namespace RX
open PySem L2 ZM
abbrev sBasis : Stmt := topS 11
theorem scBa : FnScope ["feed", "width", "parts", "k", "places", "found", "place", "line", "above"] ["feed", "width", "parts"] (defScope sBasis) := ⟨rfl, rfl, rfl, by decide +kernel, rfl, by decide +kernel, by decide +kernel⟩
def ext {α : Type} (f : Nat → α) (i : Nat) (v : α) : Nat → α := fun t => if t = i then v else f t
theorem ext_eq {α : Type} {f : Nat → α} {i : Nat} {v : α} : ext f i v i = v := if_pos rfl
theorem ext_ne {α : Type} {f : Nat → α} {i t : Nat} {v : α} (h : t ≠ i) : ext f i v t = f t := if_neg h
def rV (n : Nat) (A : Nat → Addr) : List V := (List.range n).map fun i => V.ref (A i)
theorem rV_len {n : Nat} {A : Nat → Addr} : (rV n A).length = n := by unfold rV; rw [List.length_map, List.length_range]
theorem rV_get {n i : Nat} {A : Nat → Addr} (h : i < n) : (rV n A)[i]? = some (.ref (A i)) := by
  unfold rV
  rw [List.getElem?_map, List.getElem?_range h]
  rfl
theorem rV_lt {n i : Nat} {A : Nat → Addr} {x : V} (h : (rV n A)[i]? = some x) : i < n ∧ x = .ref (A i) := by
  have hi : i < n := by
    have := (List.getElem?_eq_some_iff.mp h).1
    rw [rV_len] at this
    exact this
  rw [rV_get hi] at h
  exact ⟨hi, (Option.some.inj h).symm⟩
theorem rV_ext {n : Nat} {A : Nat → Addr} {L : Addr} : rV (n + 1) (ext A n L) = rV n A ++ [.ref L] := by
  unfold rV
  rw [List.range_succ, List.map_append]
  congr 1
  · refine List.map_congr_left fun i hi => ?_
    rw [ext_ne (Nat.ne_of_lt (List.mem_range.mp hi))]
  · show [V.ref (ext A n L n)] = _
    rw [ext_eq]
theorem iV_ext1 {n : Nat} {z : Nat → Int} {v : Int} : iV (n + 1) (ext z n v) = iV n z ++ [.int v] := by
  rw [iV_succ, ext_eq]
  congr 1
  exact iV_ext fun j hj => ext_ne (Nat.ne_of_lt hj)
theorem iV_set {w j : Nat} {z : Nat → Int} {v : Int} (h : j < w) : (iV w z).set j (.int v) = iV w (ext z j v) := by
  refine List.ext_getElem? fun i => ?_
  rw [List.getElem?_set]
  by_cases e : j = i
  · rw [if_pos e, if_pos (by rw [iV_len]; exact h), ← e, iV_get h, ext_eq]
  · rw [if_neg e]
    by_cases hi : i < w
    · rw [iV_get hi, iV_get hi, ext_ne fun x => e x.symm]
    · rw [List.getElem?_eq_none (by rw [iV_len]; omega), List.getElem?_eq_none (by rw [iV_len]; omega)]
theorem FeedAt.there {H : Hp} {a cl : Addr} (h : FeedAt H a cl) : H a ≠ none ∧ H cl ≠ none := by
  obtain ⟨cs, i, p, s, f⟩ := h
  exact ⟨(by rw [f.hA]; intro z; cases z), (by rw [f.hC]; intro z; cases z)⟩
theorem FeedAt.other {H : Hp} {a cl L : Addr} {o : HO} (h : FeedAt H a cl) (n1 : L ≠ a) (n2 : L ≠ cl) : FeedAt (upd H L o) a cl := by
  obtain ⟨cs, i, p, s, f⟩ := h
  exact ⟨cs, i, p, s, by rw [upd_ne n1.symm]; exact f.hA, by rw [upd_ne n2.symm]; exact f.hC, f.ne, f.i0, f.p0, f.s0, f.s1, f.len, f.nn⟩
theorem But.put {a L : Addr} {H H' : Hp} {o : HO} (b : But a H H') (n : H L = none) : But a H (L2.upd H' L o) := fun c x h m => by
  rw [upd_ne (ne_of_none h n)]
  exact b c x h m
/-- the list of rows while it is made -/
structure BI (H0 H1 : Hp) (a cl P q : Addr) (pf : Nat → Nat) (N w n : Nat) (A : Nat → Addr) (y : Nat → Nat → Int) : Prop where
  feed : FeedAt H1 a cl
  but : But a H0 H1
  hP : H1 P = some (.lst (iV N fun t => ((pf t : Nat) : Int)))
  hq : H1 q = some (.lst (rV n A))
  fP : H0 P = none
  fq : H0 q = none
  rows : ∀ t, t < n → H1 (A t) = some (.lst (iV w (y t)))
  rf : ∀ t, t < n → H0 (A t) = none ∧ A t ≠ P ∧ A t ≠ q
  dis : ∀ s t, s < n → t < n → s ≠ t → A s ≠ A t
  lead : ∀ t, t < n → IsLead w (y t) (pf t)
  gy : ∀ t, t < n → ∀ j, j < w → Bz 171 (y t j)
  qP : P ≠ q
/-- one row while it is made -/
structure LI (H1 H2 : Hp) (a cl L : Addr) (w l : Nat) (z : Nat → Int) : Prop where
  feed : FeedAt H2 a cl
  but : But a H1 H2
  hL : H2 L = some (.lst (iV w z))
  lead : IsLead w z l
  gz : ∀ j, j < w → Bz 171 (z j)
  zero : ∀ j, j < l → z j = 0
theorem BI.add {H0 H1 H2 : Hp} {a cl P q L : Addr} {pf : Nat → Nat} {N w n : Nat} {A : Nat → Addr} {y : Nat → Nat → Int} {z : Nat → Int} (B : BI H0 H1 a cl P q pf N w n A y) (f0 : FeedAt H0 a cl) (b : But a H1 H2) (f : FeedAt H2 a cl) (nL : H1 L = none) (hL : H2 L = some (.lst (iV w z))) (ld : IsLead w z (pf n)) (gz : ∀ j, j < w → Bz 171 (z j)) :
    BI H0 (upd H2 q (.lst (rV n A ++ [.ref L]))) a cl P q pf N w (n + 1) (ext A n L) (ext y n z) := by
  have qa : q ≠ a := fun e => f0.there.1 (by rw [← e]; exact B.fq)
  have qc : q ≠ cl := fun e => f0.there.2 (by rw [← e]; exact B.fq)
  have Pa : P ≠ a := fun e => f0.there.1 (by rw [← e]; exact B.fP)
  have Lq : L ≠ q := fun e => by rw [e, B.hq] at nL; cases nL
  have LP : L ≠ P := fun e => by rw [e, B.hP] at nL; cases nL
  have L0 : H0 L = none := But.free B.but nL B.feed
  have LA : ∀ t, t < n → L ≠ A t := fun t ht e => by rw [e, B.rows t ht] at nL; cases nL
  have Aa : ∀ t, t < n → A t ≠ a := fun t ht e => f0.there.1 (by rw [← e]; exact (B.rf t ht).1)
  refine ⟨f.other qa qc, (B.but.trans b).put B.fq, ?_, ?_, B.fP, B.fq, fun t ht => ?_, fun t ht => ?_, fun s t hs ht ne => ?_, fun t ht => ?_, fun t ht => ?_, B.qP⟩
  · rw [upd_ne B.qP]
    exact b _ _ B.hP Pa
  · rw [upd_same, rV_ext]
  · by_cases e : t = n
    · rw [e, ext_eq, ext_eq, upd_ne Lq]
      exact hL
    · rw [ext_ne e, ext_ne e, upd_ne (B.rf t (by omega)).2.2]
      exact b _ _ (B.rows t (by omega)) (Aa t (by omega))
  · by_cases e : t = n
    · rw [e, ext_eq]
      exact ⟨L0, LP, Lq⟩
    · rw [ext_ne e]
      exact B.rf t (by omega)
  · by_cases e1 : s = n
    · rw [e1, ext_eq, ext_ne (by omega)]
      exact LA t (by omega)
    · by_cases e2 : t = n
      · rw [e2, ext_eq, ext_ne e1]
        exact (LA s (by omega)).symm
      · rw [ext_ne e1, ext_ne e2]
        exact B.dis s t (by omega) (by omega) ne
  · by_cases e : t = n
    · rw [e, ext_eq]
      exact ld
    · rw [ext_ne e]
      exact B.lead t (by omega)
  · by_cases e : t = n
    · rw [e, ext_eq]
      exact gz
    · rw [ext_ne e]
      exact B.gy t (by omega)
/-- one integer of a row is made less -/
theorem BI.cut {H0 H1 : Hp} {a cl P q : Addr} {pf : Nat → Nat} {N w n k r : Nat} {A : Nat → Addr} {y : Nat → Nat → Int} {v : Int} (B : BI H0 H1 a cl P q pf N w n A y) (f0 : FeedAt H0 a cl) (hr : r < n) (hk : pf r < k) (gv : Bz 171 v) :
    BI H0 (upd H1 (A r) (.lst (iV w (ext (y r) k v)))) a cl P q pf N w n A (ext y r (ext (y r) k v)) := by
  have rf := B.rf r hr
  have Aa : A r ≠ a := fun e => f0.there.1 (by rw [← e]; exact rf.1)
  have Ac : A r ≠ cl := fun e => f0.there.2 (by rw [← e]; exact rf.1)
  refine ⟨B.feed.other Aa Ac, B.but.put rf.1, by rw [upd_ne rf.2.1.symm]; exact B.hP, by rw [upd_ne rf.2.2.symm]; exact B.hq, B.fP, B.fq, fun t ht => ?_, B.rf, B.dis, fun t ht => ?_, fun t ht => ?_, B.qP⟩
  · by_cases e : t = r
    · rw [e, ext_eq, upd_same]
    · rw [ext_ne e, upd_ne (B.dis t r ht hr e)]
      exact B.rows t ht
  · by_cases e : t = r
    · rw [e, ext_eq]
      have L := B.lead r hr
      exact ⟨L.lt, by rw [ext_ne (by omega)]; exact L.pos, fun j hj => by rw [ext_ne (by omega)]; exact L.zero j hj⟩
    · rw [ext_ne e]
      exact B.lead t ht
  · by_cases e : t = r
    · rw [e, ext_eq]
      intro j hj
      by_cases e2 : j = k
      · rw [e2, ext_eq]; exact gv
      · rw [ext_ne e2]; exact B.gy r hr j hj
    · rw [ext_ne e]
      exact B.gy t ht
/-- a basis that was made: none of its objects is the feed -/
structure BasF (H : Hp) (a q : Addr) (n w : Nat) (y : Nat → Nat → Int) (p : Nat → Nat) : Prop where
  at' : At (· = a) H (.ref q) (.lst (rng n fun i => intL w (y i)))
  lead : ∀ i, i < n → IsLead w (y i) (p i)
  gy : ∀ i, i < n → ∀ j, j < w → Bz 171 (y i j)
theorem BI.done {H0 H1 : Hp} {a cl P q : Addr} {pf : Nat → Nat} {N w n : Nat} {A : Nat → Addr} {y : Nat → Nat → Int} (B : BI H0 H1 a cl P q pf N w n A y) (f0 : FeedAt H0 a cl) : BasF H1 a q n w y pf := by
  refine ⟨.lst B.hq (fun e => f0.there.1 (by rw [← e]; exact B.fq)) (by rw [rV_len, rng_len]) fun i x d hx hd => ?_, B.lead, B.gy⟩
  obtain ⟨hi, rfl⟩ := rV_lt hx
  obtain ⟨_, rfl⟩ := rng_lt hd
  exact at_ints (B.rows i hi) fun e => f0.there.1 (by rw [← e]; exact (B.rf i hi).1)
def spBa : Sp := fun vs H Q _ => ∃ (a cl : Addr) (w : Nat) (m : Int), vs = [.ref a, .int (w : Nat), .int m] ∧ FeedAt H a cl ∧ w ≤ 6 ∧ 0 ≤ m ∧ m ≤ 10 ∧
  ∀ (q : Addr) (n : Nat) (y : Nat → Nat → Int) (p : Nat → Nat) (H' : Hp), n ≤ w → BasF H' a q n w y p → FeedAt H' a cl → But a H H' → H q = none → Q (.ref q) H'
section
variable {P : Program} {w : World} {K : PySem.W.Frag} {mg : Str → Option Value} {base : Heap}
theorem ok_ba {f fD fG fE : Addr} {fd dD dG dE : FuncData} (F : Fun K "_law_basis" "_law_basis" sBasis f fd) (T : TxtL mg) (cDr : CalN P w K mg base "_law_draw" 1 ["feed", "limit"] spDraw fD dD) (cGr : CalN P w K mg base "_law_great" 2 ["feed", "parts"] spGreat fG dG) (cEn : CalN P w K mg base "_law_entry" 3 ["feed", "parts"] spEn fE dE) :
    FnOk P w K mg base CX0 4 f fd ["feed", "width", "parts"] spBa := by
  refine F.ok scBa (fun vs H Q E h => ?_) (fun cdv A outer s H vs Q E hr h => ?_)
  · obtain ⟨a, cl, ww, m, rfl, _⟩ := h
    rfl
  · obtain ⟨a, cl, ww, m, rfl, hF, hw, h0, h1, kk⟩ := h
    have hr1 : Room 1 _ := hr.mono (by decide)
    have hr2 : Room 2 _ := hr.mono (by decide)
    have hr3 : Room 3 _ := hr.mono (by decide)
    refine ⟨_, pss_cons (ps_setLc (i := 4) (own := [("k", 3)]) (g := gName 3) rfl scBa.nd rfl rfl (sw_true rfl rfl rfl (by decide +kernel)) (pi_range1 (by rfl) T.range (pa_cons (pv 1) pa_nil)) (blkOk_by (N := ["feed", "width", "parts", "k", "places", "found", "place", "line", "above"]) (sc := (defScope sBasis)) (by decide +kernel)) (fun _ _ _ _ _ => (pg_name (i := 3) scBa.nd rfl (.inl rfl))) (fun _ _ _ _ _ => pts_one (pt_cmpR op_gt (pe_call cDr.G hr1 rfl cDr.m cDr.kp cDr.b .nil pass0 (pa_cons (pv 0) (pa_cons pe_int pa_nil))) pe_int (nomark _))) (fun _ _ _ _ _ => (pv 3)))
      (pss_cons (ps_set (i := 5) scBa.nd rfl (.inl rfl) (pe_lst pa_nil))
      (pss_cons (ps_for PassesOwn.never rfl (pi_list (pv 4)) (pg_name (i := 6) scBa.nd rfl (.inl rfl))
        (pss_cons (ps_setLc (i := 7) (own := [("k", 3)]) (g := gName 3) (tt := tYes) rfl scBa.nd rfl rfl (sw_true rfl rfl rfl (by decide +kernel)) (pi_range1 (by rfl) T.range (pa_cons (pv 1) pa_nil)) (blkOk_by (N := ["feed", "width", "parts", "k", "places", "found", "place", "line", "above"]) (sc := (defScope sBasis)) (by decide +kernel)) (fun _ _ _ _ _ => (pg_name (i := 3) scBa.nd rfl (.inl rfl))) (fun _ _ _ _ _ => pts_nil) (fun _ _ _ _ _ => pe_int))
        (pss_cons (ps_asg (pe_op op_add pe_int (pe_call cDr.G hr1 rfl cDr.m cDr.kp cDr.b .nil pass0 (pa_cons (pv 0) (pa_cons pe_int pa_nil)))) (pg_sub (pv 7) (pv 6) set_list))
        (C8.pss_cut (ps_if (pt_cmpR op_gt (pv 2) pe_int (nomark _))
          (pss_one (ps_asg (pe_callB (call_max2 rfl) (by rfl) T.max (by decide +kernel) (pa_cons pe_int (pa_cons (pe_call cGr.G hr2 rfl cGr.m cGr.kp cGr.b .nil pass0 (pa_cons (pv 0) (pa_cons (pv 2) pa_nil))) pa_nil))) (pg_sub (pv 7) (pv 6) set_list)))
          pss_nil)
        (pss_cons (ps_for PassesOwn.never rfl (pi_range2 (by rfl) T.range (pa_cons (pe_op op_add (pv 6) pe_int) (pa_cons (pv 1) pa_nil))) (pg_name (i := 3) scBa.nd rfl (.inl rfl))
          (pss_one (ps_asg (pe_call cEn.G hr3 rfl cEn.m cEn.kp cEn.b .nil pass0 (pa_cons (pv 0) (pa_cons (pv 2) pa_nil))) (pg_sub (pv 7) (pv 3) set_list))))
        (pss_one (ps_expr (pe_bm PySem.F.plainAttrs_list PySem.F.slot_list_append PySem.F.type_list_append mt_append (pv 5) (pa_cons (pv 7) pa_nil)))))))))
      (pss_cons (ps_for PassesOwn.never rfl (pi_range1 (by rfl) T.range (pa_cons (pe_callB call_len_seq (by rfl) T.len PySem.boot_len (pa_cons (pv 4) pa_nil)) pa_nil)) (pg_name (i := 3) scBa.nd rfl (.inl rfl))
        (pss_cons (ps_set (i := 6) scBa.nd rfl (.inl rfl) (pe_ix ix_list (pv 4) (pv 3) (fun _ _ => rfl)))
        (pss_one (ps_for PassesOwn.never rfl (pi_range1 (by rfl) T.range (pa_cons (pv 3) pa_nil)) (pg_name (i := 8) scBa.nd rfl (.inl rfl))
          (pss_one (ps_asg (pe_op op_mod (pe_callTy call_int1 (by rfl) T.int (by decide +kernel) (pa_cons (pe_ix ix_list (pe_ix ix_list (pv 5) (pv 8) (fun _ _ => rfl)) (pv 6) (fun _ _ => rfl)) pa_nil)) (pe_ix ix_list (pe_ix ix_list (pv 5) (pv 3) (fun _ _ => rfl)) (pv 6) (fun _ _ => rfl))) (pg_sub (pe_ix ix_list (pv 5) (pv 8) (fun _ _ => rfl)) (pv 6) set_list)))))))
      (pss_one (ps_ret (pv 5)))))), ?_⟩
    refine ⟨_, rfl, _, rfl, by omega, by omega, fun D nD => ?_⟩
    have Da : D ≠ a := fun e => hF.there.1 (by rw [← e]; exact nD)
    have Dc : D ≠ cl := fun e => hF.there.2 (by rw [← e]; exact nD)
    refine lc_it (walk_range (lo := 0) (n := ((ww : Nat) : Int).toNat)) (fun i G => ∃ (N : Nat) (pf : Nat → Nat), G D = some (.lst (iV N fun t => ((pf t : Nat) : Int))) ∧ N ≤ i ∧ (∀ t, t < N → pf t < i) ∧ (∀ s t, s < t → t < N → pf s < pf t) ∧ FeedAt G a cl ∧ But a H G)
      ⟨0, fun _ => 0, upd_same, Nat.le_refl _, fun t h => absurd h (by omega), fun s t _ h => absurd h (by omega), hF.other Da Dc, Same.but (Same.upd nD)⟩ (fun _ _ _ _ => trivial) ?_ ?_
    · rintro i x G1 G2 hi ⟨N, pf, hD, Ni, lt, asc, f1, b1⟩ ⟨rfl, rfl⟩
      refine ⟨rfl, _, rfl, a, cl, 3, rfl, f1, by decide, by decide, fun r G3 r0 r1 f3 b3 => ?_⟩
      refine ⟨_, _, rfl, rfl, _, rfl, ite2 (fun _ => ?_) (fun _ => ?_)⟩
      · refine ⟨_, rfl, _, b3 _ _ hD Da, by rw [iV_len]; exact small1000 (by omega), N + 1, ext pf N i, ?_, by omega, fun t ht => ?_, fun s t hs ht => ?_, f3.other Da Dc, (b1.trans b3).put nD⟩
        · dsimp only
          rw [upd_same, iV_succ, ext_eq, Int.zero_add]
          congr 3
          exact iV_ext fun j hj => by rw [ext_ne (Nat.ne_of_lt hj)]
        · by_cases e : t = N
          · rw [e, ext_eq]; omega
          · rw [ext_ne e]; have := lt t (by omega); omega
        · by_cases e : t = N
          · rw [e, ext_eq, ext_ne (by omega)]; exact lt s (by omega)
          · rw [ext_ne e, ext_ne (by omega)]; exact asc s t hs (by omega)
      · exact ⟨N, pf, b3 _ _ hD Da, by omega, fun t ht => by have := lt t ht; omega, asc, f3, b1.trans b3⟩
    rintro G ⟨N, pf, hD, Nw, lt, asc, fG', bG⟩
    have Nw : N ≤ ww := by omega
    have lt : ∀ t, t < N → pf t < ww := fun t ht => by have := lt t ht; omega
    refine ⟨(by show 0 ≤ sizeLine; decide), fun q nq => ?_⟩
    have qD : D ≠ q := ne_of_none hD nq
    have q0 : H q = none := But.free bG nq fG'
    have B0 : BI H (upd G q (.lst [])) a cl D q pf N ww 0 (fun _ => 0) (fun _ _ => 0) :=
      ⟨fG'.same (Same.upd nq), bG.trans (Same.but (Same.upd nq)), by rw [upd_ne qD]; exact hD, upd_same, nD, q0, fun t h => absurd h (by omega), fun t h => absurd h (by omega), fun s t h => absurd h (by omega), fun t h => absurd h (by omega), fun t h => absurd h (by omega), qD⟩
    refine ⟨_, rfl, D, rfl, ⟨_, SqL.of B0.hP⟩, for_list (xs := iV N fun t => ((pf t : Nat) : Int)) (fun i σ H' => ∃ o3 o6 o7 A y, σ = [some (.ref a), some (.int (ww : Nat)), some (.int m), o3, some (.ref D), some (.ref q), o6, o7, none] ∧ BI H H' a cl D q pf N ww i A y)
      ⟨none, none, none, _, _, rfl, B0⟩ (fun i σ H' _ h => by obtain ⟨_, _, _, _, _, _, B⟩ := h; exact SqL.of B.hP) ?_ ?_⟩
    · rintro i x σ H1 hx ⟨o3, o6, o7, A, y, rfl, B⟩
      obtain ⟨hi, rfl⟩ := iV_lt hx
      have lti := lt i hi
      refine ⟨_, rfl, _, rfl, by omega, by omega, fun L nL => ?_⟩
      have La : L ≠ a := fun e => B.feed.there.1 (by rw [← e]; exact nL)
      have Lc : L ≠ cl := fun e => B.feed.there.2 (by rw [← e]; exact nL)
      refine lc_it (walk_range (lo := 0) (n := ((ww : Nat) : Int).toNat)) (fun j G => G L = some (.lst (iV j fun _ => 0)) ∧ Same H1 G) ⟨upd_same, Same.upd nL⟩ (fun _ _ _ _ => trivial) ?_ ?_
      · rintro j x G1 G2 hj ⟨hG, sG⟩ ⟨rfl, rfl⟩
        refine ⟨rfl, _, hG, by rw [iV_len]; exact small1000 (by omega), ?_, ?_⟩
        · rw [upd_same, iV_succ]
        · intro c o e
          rw [upd_ne (ne_of_none e nL)]
          exact sG _ _ e
      rintro H2 ⟨hL2, s2⟩
      rw [Int.toNat_natCast] at hL2
      refine ⟨_, rfl, a, cl, 6, rfl, B.feed.same s2, by decide, by decide, fun r H3 r0 r1 f3 b3 => ?_⟩
      have hL3 := b3 _ _ hL2 La
      have b13 : But a H1 H3 := (Same.but s2).trans b3
      refine ⟨_, _, rfl, rfl, _, rfl, _, rfl, L, _, _, pf i, rfl, rfl, hL3, ixN_at rfl (by rw [iV_len]; exact lti), ?_⟩
      rw [iV_set lti]
      have mk : ∀ (G : Hp) (v : Int), FeedAt G a cl → But a H1 G → 0 < v → Bz 171 v → LI H1 (upd G L (.lst (iV ww (ext (fun _ => 0) (pf i) v)))) a cl L ww (pf i) (ext (fun _ => 0) (pf i) v) := fun G v fG bG v0 gv =>
        ⟨fG.other La Lc, bG.put nL, upd_same, ⟨lti, by rw [ext_eq]; exact v0, fun j hj => ext_ne (by omega)⟩, fun j _ => by
          by_cases e : j = pf i
          · rw [e, ext_eq]; exact gv
          · rw [ext_ne e]; show (0 : Int).natAbs < _; exact Nat.two_pow_pos _, fun j hj => ext_ne (by omega)⟩
      refine ⟨fun σ' H' => ∃ z, σ' = [some (.ref a), some (.int (ww : Nat)), some (.int m), o3, some (.ref D), some (.ref q), some (.int ((pf i : Nat) : Int)), some (.ref L), none] ∧ LI H1 H' a cl L ww (pf i) z, ?_, ?_⟩
      · refine ⟨_, rfl, _, _, rfl, rfl, _, rfl, ite2 (fun _ => ?_) (fun _ => ?_)⟩
        · have M := mk H3 (1 + r) f3 b13 (by omega) (Bz.le (a := 3) (by show (1 + r).natAbs < 8; omega) (by decide))
          refine ⟨_, rfl, _, rfl, a, cl, m, rfl, M.feed, h0, by omega, fun t H4 t0 t1 f4 b4 => ?_⟩
          have hL4 := b4 _ _ M.hL La
          have gt : Bz 171 (if t > 1 then t else 1) := by
            have h2 : t.natAbs < 100000 ^ m.toNat := by
              have : ((t.natAbs : Nat) : Int) < ((100000 ^ m.toNat : Nat) : Int) := by rw [Int.natAbs_of_nonneg t0, Int.natCast_pow]; exact t1
              omega
            have h3 : t.natAbs < 2 ^ 171 := Nat.lt_of_lt_of_le h2 (Nat.le_trans (Nat.pow_le_pow_right (by decide) (show m.toNat ≤ 10 by omega)) (by decide +kernel))
            split
            · exact h3
            · show (1 : Int).natAbs < _
              exact Nat.one_lt_two_pow (by decide)
          refine ⟨_, _, rfl, _, rfl, _, rfl, L, _, _, pf i, rfl, rfl, hL4, ixN_at rfl (by rw [iV_len]; exact lti), ?_⟩
          rw [iV_set lti]
          refine ⟨ext (ext (fun _ => 0) (pf i) (1 + r)) (pf i) (if t > 1 then t else 1), rfl, ?_⟩
          have M2 := mk H4 (if t > 1 then t else 1) f4 (M.but.trans b4) (by split <;> omega) gt
          rw [show ext (ext (fun _ => 0) (pf i) (1 + r)) (pf i) (if t > 1 then t else 1) = ext (fun _ => 0) (pf i) (if t > 1 then t else 1) by
            funext j
            by_cases e : j = pf i
            · rw [e, ext_eq, ext_eq]
            · rw [ext_ne e, ext_ne e, ext_ne e]]
          exact M2
        · exact ⟨_, rfl, mk H3 (1 + r) f3 b13 (by omega) (Bz.le (a := 3) (by show (1 + r).natAbs < 8; omega) (by decide))⟩
      rintro σ' H5 ⟨z, rfl, M⟩
      refine ⟨_, rfl, _, _, rfl, rfl, _, rfl, ((pf i : Nat) : Int) + 1, ((ww : Nat) : Int), rfl, ⟨by omega, by omega, by omega, by omega⟩, for_range (lo := ((pf i : Nat) : Int) + 1) (n := (((ww : Nat) : Int) - (((pf i : Nat) : Int) + 1)).toNat) (fun t σ H' => ∃ o3 z, σ = [some (.ref a), some (.int (ww : Nat)), some (.int m), o3, some (.ref D), some (.ref q), some (.int ((pf i : Nat) : Int)), some (.ref L), none] ∧ LI H1 H' a cl L ww (pf i) z)
        ⟨o3, z, rfl, M⟩ ?_ ?_⟩
      · rintro t σ H6 ht ⟨o3, z, rfl, M⟩
        refine ⟨_, rfl, _, rfl, a, cl, m, rfl, M.feed, h0, h1, fun r H7 gr f7 b7 => ?_⟩
        have hL7 := b7 _ _ M.hL La
        have tw : pf i + 1 + t < ww := by omega
        refine ⟨_, rfl, _, rfl, L, _, _, pf i + 1 + t, rfl, rfl, hL7, ixN_at (by omega) (by rw [iV_len]; exact tw), ?_⟩
        rw [iV_set tw]
        refine ⟨_, _, rfl, f7.other La Lc, (M.but.trans b7).put nL, upd_same, ⟨M.lead.lt, by rw [ext_ne (by omega)]; exact M.lead.pos, fun j hj => by rw [ext_ne (by omega)]; exact M.lead.zero j hj⟩, fun j hj => ?_, fun j hj => by rw [ext_ne (by omega)]; exact M.zero j hj⟩
        by_cases e : j = pf i + 1 + t
        · rw [e, ext_eq]; exact gr
        · rw [ext_ne e]; exact M.gz j hj
      · rintro σ H6 ⟨o3, z, rfl, M⟩
        have hq6 := M.but _ _ B.hq (fun e => hF.there.1 (by rw [← e]; exact q0))
        refine ⟨_, rfl, .inl ⟨rfl, _, SqL.of hq6⟩, _, rfl, q, _, _, rfl, rfl, hq6, by rw [rV_len]; exact small1000 (by omega), _, _, _, _, _, rfl, B.add hF M.but M.feed nL M.hL M.lead M.gz⟩
    · rintro σ H1 ⟨o3, o6, o7, A, y, rfl, B⟩
      rw [iV_len] at B
      refine ⟨_, rfl, D, _, rfl, .inl (SqL.of B.hP), _, rfl, by rw [iV_len]; omega, by rw [iV_len]; omega, ?_⟩
      rw [iV_len]
      refine for_range (n := ((N : Nat) : Int).toNat) (fun k σ H' => ∃ o3 o6 o8 y, σ = [some (.ref a), some (.int (ww : Nat)), some (.int m), o3, some (.ref D), some (.ref q), o6, o7, o8] ∧ BI H H' a cl D q pf N ww N A y) ⟨_, _, _, _, rfl, B⟩ ?_ ?_
      · rintro k σ H2 hk ⟨o3, o6, o8, y, rfl, B⟩
        have hk : k < N := by omega
        refine ⟨_, rfl, _, rfl, D, _, _, _, rfl, rfl, SqL.of B.hP, at_of (Int.zero_add _) (iV_get hk), ?_⟩
        refine ⟨_, rfl, _, rfl, by omega, by omega, for_range (n := (0 + ((k : Nat) : Int)).toNat) (fun r σ H' => ∃ o8 y, σ = [some (.ref a), some (.int (ww : Nat)), some (.int m), some (.int (0 + (k : Int))), some (.ref D), some (.ref q), some (.int ((pf k : Nat) : Int)), o7, o8] ∧ BI H H' a cl D q pf N ww N A y) ⟨_, _, rfl, B⟩ ?_ ?_⟩
        · rintro r σ H3 hr' ⟨o8, y, rfl, B⟩
          have hrk : r < k := by omega
          have hrN : r < N := by omega
          have Lk := B.lead k hk
          refine ⟨_, rfl, _, rfl, q, _, _, _, rfl, rfl, SqL.of B.hq, at_of (Int.zero_add _) (rV_get hrN), _, rfl, A r, _, _, _, rfl, rfl, SqL.of (B.rows r hrN), at_of rfl (iV_get Lk.lt), ?_⟩
          refine .inl ⟨_, rfl, _, rfl, _, rfl, q, _, _, _, rfl, rfl, SqL.of B.hq, at_of (Int.zero_add _) (rV_get hk), _, rfl, A k, _, _, _, rfl, rfl, SqL.of (B.rows k hk), at_of rfl (iV_get Lk.lt), _, _, rfl, rfl, Lk.pos, ?_⟩
          refine ⟨_, rfl, _, rfl, q, _, _, _, rfl, rfl, SqL.of B.hq, at_of (Int.zero_add _) (rV_get hrN), _, rfl, A r, _, _, pf k, rfl, rfl, B.rows r hrN, ixN_at rfl (by rw [iV_len]; exact Lk.lt), ?_⟩
          rw [iV_set Lk.lt]
          refine ⟨_, _, rfl, B.cut hF hrN (asc r k hrk hk) ?_⟩
          have e0 := Int.emod_nonneg (y r (pf k)) (Int.ne_of_gt Lk.pos)
          have e1 := Int.emod_lt_of_pos (y r (pf k)) Lk.pos
          have g := B.gy k hk _ Lk.lt
          unfold Bz at *
          omega
        · rintro σ H3 ⟨o8, y, rfl, B⟩
          exact ⟨_, _, _, _, rfl, B⟩
      · rintro σ H2 ⟨o3, o6, o8, y, rfl, B⟩
        exact ⟨_, rfl, kk q N y pf H2 Nw (B.done hF) B.feed B.but q0⟩
end
end RX

set_option Elab.async false
set_option maxRecDepth 100000
set_option exponentiation.threshold 100000
namespace RX
open PySem L2 ZM
abbrev sLaw : Stmt := topS 15
theorem scL : FnScope ["script", "feed", "width", "size", "basis", "line", "one", "count", "changed", "at", "step", "drawn", "turn", "k"] ["script"] (defScope sLaw) := ⟨rfl, rfl, rfl, by decide +kernel, rfl, by decide +kernel, by decide +kernel⟩
def spLaw (K : PySem.W.Frag) : Sp := fun vs H Q _ => ∃ (a : Addr) (ns : List Int), vs = [.ref a] ∧ SqL K H a (ns.map V.int) ∧ ns.length ≤ 63 ∧ ∀ H', Q (.bl true) H'
/-- a list of lists of integers, apart from the feed -/
def TabF (H : Hp) (a b : Addr) (n w : Nat) (y : Nat → Nat → Int) : Prop := ∃ xs : List V, H b = some (.lst xs) ∧ b ≠ a ∧ xs.length = n ∧ ∀ i, i < n → ∃ p : Addr, xs[i]? = some (.ref p) ∧ H p = some (.lst (iV w (y i))) ∧ p ≠ a
theorem TabF.but {H H' : Hp} {a b : Addr} {n w : Nat} {y : Nat → Nat → Int} (h : TabF H a b n w y) (s : But a H H') : TabF H' a b n w y := by
  obtain ⟨xs, h1, h2, h3, h4⟩ := h
  exact ⟨xs, s _ _ h1 h2, h2, h3, fun i hi => let ⟨p, e, g, m⟩ := h4 i hi; ⟨p, e, s _ _ g m, m⟩⟩
theorem TabF.l {H : Hp} {a b : Addr} {n w : Nat} {y : Nat → Nat → Int} (h : TabF H a b n w y) : TabL H b n w y := by
  obtain ⟨xs, h1, _, h3, h4⟩ := h
  exact ⟨xs, h1, h3, fun i hi => let ⟨p, e, g, _⟩ := h4 i hi; ⟨p, e, g⟩⟩
theorem BasF.tab {H : Hp} {a q : Addr} {n w : Nat} {y : Nat → Nat → Int} {p : Nat → Nat} (B : BasF H a q n w y p) : TabF H a q n w y := by
  obtain ⟨xs, hp, l, e⟩ := At.lstR B.at'
  have nq := B.at'.notin
  refine ⟨xs, hp, nq, l, fun i hi => ?_⟩
  obtain ⟨x, hx, hd⟩ := e i hi
  obtain ⟨p, rfl⟩ := At.lstV hd
  have np := hd.notin
  exact ⟨p, hx, At.ints hd, np⟩
theorem iV_map {w : Nat} {z : Nat → Int} : iV w z = ((List.range w).map z).map V.int := by
  unfold iV
  rw [List.map_map]
  rfl
theorem lim3 {d : Int} (h0 : 0 ≤ d) (h1 : d < 3) : ∃ m : Int, atI [V.int 1, V.int 1, V.int 10] d = some (.int m) ∧ 0 ≤ m ∧ m ≤ 10 := by
  have : d = 0 ∨ d = 1 ∨ d = 2 := by omega
  rcases this with rfl | rfl | rfl
  · exact ⟨1, rfl, by decide, by decide⟩
  · exact ⟨1, rfl, by decide, by decide⟩
  · exact ⟨10, rfl, by decide, by decide⟩
section
variable {P : Program} {w : World} {K : PySem.W.Frag} {mg : Str → Option Value} {base : Heap}
theorem ok_law {f fFe fDr fGr fBa fMi fAs : Addr} {fd dFe dDr dGr dBa dMi dAs : FuncData} (F : Fun K "law" "law" sLaw f fd) (T : TxtL mg) (ml : mg "list" = none)
    (cFe : CalN P w K mg base "_law_feed" 1 ["script"] (spFeed K) fFe dFe) (cDr : CalN P w K mg base "_law_draw" 1 ["feed", "limit"] spDraw fDr dDr) (cGr : CalN P w K mg base "_law_great" 2 ["feed", "parts"] spGreat fGr dGr)
    (cBa : CalN P w K mg base "_law_basis" 4 ["feed", "width", "parts"] spBa fBa dBa) (cMi : CalN P w K mg base "_law_mixed" 1 ["one", "count", "two"] spMi fMi dMi) (cAs : CalN P w K mg base "_law_asked" 3 ["basis", "line"] spAs fAs dAs) :
    FnOk P w K mg base CX0 5 f fd ["script"] (spLaw K) := by
  refine F.ok scL (fun vs H Q E h => ?_) (fun cdv A outer s H vs Q E hr h => ?_)
  · obtain ⟨a, ns, rfl, _⟩ := h
    rfl
  · obtain ⟨a, ns, rfl, hS, hl, k⟩ := h
    have hr1 : Room 1 _ := hr.mono (by decide)
    have hr2 : Room 2 _ := hr.mono (by decide)
    have hr3 : Room 3 _ := hr.mono (by decide)
    have hr4 : Room 4 _ := hr.mono (by decide)
    refine ⟨_, pss_cons (ps_set (i := 1) scL.nd rfl (.inr rfl) (pe_call cFe.G hr1 rfl cFe.m cFe.kp cFe.b .nil pass0 (pa_cons (pv 0) pa_nil)))
      (pss_cons (ps_set (i := 2) scL.nd rfl (.inl rfl) (pe_call cDr.G hr1 rfl cDr.m cDr.kp cDr.b .nil pass0 (pa_cons (pv 1) (pa_cons pe_int pa_nil))))
      (pss_cons (ps_set (i := 3) scL.nd rfl (.inl rfl) (pe_ix ix_list (pe_lst (pa_cons pe_int (pa_cons pe_int (pa_cons pe_int pa_nil)))) (pe_call cDr.G hr1 rfl cDr.m cDr.kp cDr.b .nil pass0 (pa_cons (pv 1) (pa_cons pe_int pa_nil))) (fun _ _ => rfl)))
      (pss_cons (ps_set (i := 4) scL.nd rfl (.inl rfl) (pe_call cBa.G hr4 rfl cBa.m cBa.kp cBa.b .nil pass0 (pa_cons (pv 1) (pa_cons (pv 2) (pa_cons (pv 3) pa_nil)))))
      (pss_cons (ps_setLc (i := 5) (own := [("k", 13)]) (g := gName 13) (tt := tYes) rfl scL.nd rfl rfl (sw_true rfl rfl rfl (by decide +kernel)) (pi_range1 (by rfl) T.range (pa_cons (pv 2) pa_nil)) (blkOk_by (N := ["script", "feed", "width", "size", "basis", "line", "one", "count", "changed", "at", "step", "drawn", "turn", "k"]) (sc := (defScope sLaw)) (by decide +kernel)) (fun _ _ _ _ _ => (pg_name (i := 13) scL.nd rfl (.inl rfl))) (fun _ _ _ _ _ => pts_nil) (fun _ _ _ _ _ => pe_int))
      (pss_cons (ps_for PassesOwn.never rfl (pi_list (pv 4)) (pg_name (i := 6) scL.nd rfl (.inl rfl))
        (pss_cons (ps_set (i := 7) scL.nd rfl (.inl rfl) (pe_op op_sub (pe_call cDr.G hr1 rfl cDr.m cDr.kp cDr.b .nil pass0 (pa_cons (pv 1) (pa_cons pe_int pa_nil))) pe_int))
        (C8.pss_cut (ps_if (pt_cmpR op_eq (pe_call cDr.G hr1 rfl cDr.m cDr.kp cDr.b .nil pass0 (pa_cons (pv 1) (pa_cons pe_int pa_nil))) pe_int (nomark _))
          (pss_one (ps_set (i := 7) scL.nd rfl (.inl rfl) (pe_op op_mulW (pe_call cGr.G hr2 rfl cGr.m cGr.kp cGr.b .nil pass0 (pa_cons (pv 1) (pa_cons pe_int pa_nil))) (pe_op op_sub pe_int (pe_op op_mulW pe_int (pe_call cDr.G hr1 rfl cDr.m cDr.kp cDr.b .nil pass0 (pa_cons (pv 1) (pa_cons pe_int pa_nil))))))))
          pss_nil)
        (pss_one (ps_set (i := 5) scL.nd rfl (.inl rfl) (pe_call cMi.G hr1 rfl cMi.m cMi.kp cMi.b .nil pass0 (pa_cons (pv 5) (pa_cons (pv 7) (pa_cons (pv 6) pa_nil)))))))))
      (pss_cons (ps_set (i := 8) scL.nd rfl (.inl rfl) (pe_callTy (T := "list") (show CallR _ (.type "list") (rLstO K) from call_listK) (by rfl) ml (by decide +kernel) (pa_cons (pv 5) pa_nil)))
      (C8.pss_cut (ps_if (pt_cmpR op_gt (pv 2) pe_int (nomark _))
        (pss_cons (ps_set (i := 9) scL.nd rfl (.inl rfl) (pe_call cDr.G hr1 rfl cDr.m cDr.kp cDr.b .nil pass0 (pa_cons (pv 1) (pa_cons (pv 2) pa_nil))))
        (pss_cons (ps_set (i := 10) scL.nd rfl (.inl rfl) (pe_op op_add pe_int (pe_call cDr.G hr1 rfl cDr.m cDr.kp cDr.b .nil pass0 (pa_cons (pv 1) (pa_cons pe_int pa_nil)))))
        (C8.pss_cut (ps_if (PW.pt (pw_and (pt_cmpR op_eq (pe_call cDr.G hr1 rfl cDr.m cDr.kp cDr.b .nil pass0 (pa_cons (pv 1) (pa_cons pe_int pa_nil))) pe_int (nomark _)) (pw_and1 (pt_cmpR op_gt (pe_callB call_len_seq (by rfl) T.len PySem.boot_len (pa_cons (pv 4) pa_nil)) pe_int (nomark _)))))
          (pss_one (ps_set (i := 10) scL.nd rfl (.inl rfl) (pe_callB (cr_max rfl) (by rfl) T.max (by decide +kernel) (pa_cons (pe_ix ix_list (pv 4) (pe_call cDr.G hr1 rfl cDr.m cDr.kp cDr.b .nil pass0 (pa_cons (pv 1) (pa_cons (pe_callB call_len_seq (by rfl) T.len PySem.boot_len (pa_cons (pv 4) pa_nil)) pa_nil))) (fun _ _ => rfl)) pa_nil))))
          pss_nil)
        (pss_one (ps_asg (pe_op op_add (pe_ix ix_list (pv 8) (pv 9) (fun _ _ => rfl)) (pe_op op_mulW (pv 10) (pe_op op_sub pe_int (pe_op op_mulW pe_int (pe_call cDr.G hr1 rfl cDr.m cDr.kp cDr.b .nil pass0 (pa_cons (pv 1) (pa_cons pe_int pa_nil))))))) (pg_sub (pv 8) (pv 9) set_list))))))
        pss_nil)
      (pss_cons (ps_setLc (i := 11) (own := [("k", 13)]) (g := gName 13) (tt := tYes) rfl scL.nd rfl rfl (sw_true rfl rfl rfl (by decide +kernel)) (pi_range1 (by rfl) T.range (pa_cons (pv 2) pa_nil)) (blkOk_by (N := ["script", "feed", "width", "size", "basis", "line", "one", "count", "changed", "at", "step", "drawn", "turn", "k"]) (sc := (defScope sLaw)) (by decide +kernel)) (fun _ _ _ _ _ => (pg_name (i := 13) scL.nd rfl (.inl rfl))) (fun _ _ _ _ _ => pts_nil) (fun _ _ _ _ _ => (pe_op op_sub (pe_call cDr.G hr1 rfl cDr.m cDr.kp cDr.b .nil pass0 (pa_cons (pv 1) (pa_cons pe_int pa_nil))) pe_int)))
      (pss_cons (ps_for PassesOwn.never rfl (pi_range1 (by rfl) T.range (pa_cons pe_int pa_nil)) (pg_name (i := 12) scL.nd rfl (.inl rfl))
        (pss_one (ps_for PassesOwn.never rfl (pi_list (pe_lst (pa_cons (pv 5) (pa_cons (pv 8) (pa_cons (pv 11) (pa_cons (pe_lc (own := [("k", 13)]) (g := gName 13) (tt := tYes) rfl scL.nd (pi_range1 (by rfl) T.range (pa_cons (pv 2) pa_nil)) (blkOk_by (N := ["script", "feed", "width", "size", "basis", "line", "one", "count", "changed", "at", "step", "drawn", "turn", "k"]) (sc := (defScope sLaw)) (by decide +kernel)) (fun _ _ _ _ _ => (pg_name (i := 13) scL.nd rfl (.inl rfl))) (fun _ _ _ _ _ => pts_nil) (fun _ _ _ _ _ => pe_int)) (pa_cons (pv 5) pa_nil))))))) (pg_name (i := 6) scL.nd rfl (.inl rfl))
          (pss_one (ps_if (PW.pt (pw_or (pt_not (pt_val (pe_call cAs.G hr3 rfl cAs.m cAs.kp cAs.b .nil pass0 (pa_cons (pv 4) (pa_cons (pv 6) pa_nil))))) (pw_or1 (pt_not (pt_val (pe_call cAs.G hr3 rfl cAs.m cAs.kp cAs.b .nil pass0 (pa_cons (pe_lst pa_nil) (pa_cons (pv 6) pa_nil))))))))
            (pss_one ps_never)
            pss_nil)))))
      (pss_one (ps_ret pe_bl))))))))))), ?_⟩
    refine ⟨_, rfl, a, ns, rfl, hS, hl, fun fe cl H1 s1 nfe ncl f1 => ?_⟩
    refine ⟨_, rfl, fe, cl, 7, rfl, f1, by decide, by decide, fun wz H2 w0 w1 f2 b2 => ?_⟩
    obtain ⟨ww, rfl⟩ : ∃ n : Nat, wz = (n : Int) := ⟨wz.toNat, by omega⟩
    have hw : ww ≤ 6 := by omega
    refine ⟨(by show 3 ≤ sizeLine; decide), fun L nL => ?_⟩
    refine ⟨_, rfl, fe, cl, 3, rfl, f2.same (Same.upd nL), by decide, by decide, fun d H3 d0 d1 f3 b3 => ?_⟩
    have Lf : L ≠ fe := fun e => f2.there.1 (by rw [← e]; exact nL)
    obtain ⟨m, hm, m0, m1⟩ := lim3 d0 d1
    refine ⟨L, _, d, _, rfl, rfl, SqL.of (b3 _ _ upd_same Lf), hm, ?_⟩
    refine ⟨_, rfl, _, rfl, _, rfl, fe, cl, ww, m, rfl, f3, hw, m0, m1, fun q n y p H4 nw B f4 b4 nq => ?_⟩
    have tab4 := B.tab
    have hn : n ≤ 6 := by omega
    refine ⟨_, rfl, _, rfl, by omega, by omega, fun D nD => ?_⟩
    have Df : D ≠ fe := fun e => f4.there.1 (by rw [← e]; exact nD)
    refine lc_it (walk_range (lo := 0) (n := ((ww : Nat) : Int).toNat)) (fun j G => G D = some (.lst (iV j fun _ => 0)) ∧ Same H4 G) ⟨upd_same, Same.upd nD⟩ (fun _ _ _ _ => trivial) ?_ ?_
    · rintro j x G1 G2 hj ⟨hG, sG⟩ ⟨rfl, rfl⟩
      refine ⟨rfl, _, hG, by rw [iV_len]; exact small1000 (by omega), ?_, ?_⟩
      · rw [upd_same, iV_succ]
      · intro c o e
        rw [upd_ne (ne_of_none e nD)]
        exact sG _ _ e
    rintro H5 ⟨hD5, s5⟩
    rw [Int.toNat_natCast] at hD5
    obtain ⟨xs, hq4, qf, lx, ex⟩ := id tab4
    refine ⟨_, rfl, q, rfl, ⟨_, SqL.of (s5 _ _ hq4)⟩, for_list (xs := xs) (fun i σ H' => ∃ lq z o6 o7, σ = [some (.ref a), some (.ref fe), some (.int (ww : Nat)), some (.int m), some (.ref q), some (.ref lq), o6, o7, none, none, none, none, none, none] ∧ H' lq = some (.lst (iV ww z)) ∧ lq ≠ fe ∧ (∀ j, j < ww → Bz (189 + i) (z j)) ∧ FeedAt H' fe cl ∧ But fe H4 H')
      ⟨D, fun _ => 0, none, none, rfl, hD5, Df, fun j _ => (by show (0 : Int).natAbs < _; exact Nat.two_pow_pos _), f4.same s5, Same.but s5⟩ (fun i σ H' _ h => by obtain ⟨_, _, _, _, _, _, _, _, _, b⟩ := h; exact SqL.of (b _ _ hq4 qf)) ?_ ?_⟩
    · rintro i x σ H6 hx ⟨lq, z, o6, o7, rfl, hlq, lf', gz, f6, b6⟩
      have hin : i < n := by
        have := (List.getElem?_eq_some_iff.mp hx).1
        omega
      obtain ⟨pp, hxp, hpp, ppf⟩ := ex i hin
      rw [hxp] at hx
      obtain rfl := Option.some.inj hx
      refine ⟨_, rfl, fe, cl, 9, rfl, f6, by decide, by decide, fun c H7 c0 c1 f7 b7 => ⟨_, _, rfl, rfl, ?_⟩⟩
      refine ⟨fun σ' H' => ∃ c, σ' = [some (.ref a), some (.ref fe), some (.int (ww : Nat)), some (.int m), some (.ref q), some (.ref lq), some (.ref pp), some (.int c), none, none, none, none, none, none] ∧ Bz 18 c ∧ FeedAt H' fe cl ∧ But fe H6 H', ?_, ?_⟩
      · refine ⟨_, rfl, fe, cl, 3, rfl, f7, by decide, by decide, fun r H8 r0 r1 f8 b8 => ?_⟩
        refine ⟨rfl, _, rfl, ite2 (fun _ => ?_) (fun _ => ?_)⟩
        · refine ⟨_, rfl, fe, cl, 1, rfl, f8, by decide, by decide, fun g H9 g0 g1 f9 b9 => ?_⟩
          have hb : Bz 17 g := by
            have g1 : g < 100000 ^ 1 := g1
            show g.natAbs < 131072
            omega
          refine ⟨_, rfl, fe, cl, 2, rfl, f9, by decide, by decide, fun d H10 d0 d1 f10 b10 => ?_⟩
          have hd : Bz 1 d := by show d.natAbs < 2; omega
          refine ⟨_, _, rfl, rfl, wide_mul (show ((2 : Int)).natAbs < 2 ^ 2 by decide) hd (by decide) (by decide) (by decide), _, _, rfl, rfl, ?_⟩
          have h3 : Bz 1 (1 - 2 * d) := by show (1 - 2 * d).natAbs < 2; omega
          refine ⟨_, _, rfl, rfl, wide_mul hb h3 (by decide) (by decide) (by decide), ?_⟩
          exact ⟨_, rfl, hb.mul h3, f10, ((b7.trans b8).trans b9).trans b10⟩
        · exact ⟨_, rfl, (by show (c - 4).natAbs < 262144; omega), f8, b7.trans b8⟩
      rintro σ' H7 ⟨c, rfl, gc, f7, b7⟩
      have gy := B.gy i hin
      refine ⟨_, rfl, _, rfl, _, rfl, lq, pp, ww, c, z, y i, rfl, b7 _ _ hlq lf', b7 _ _ (b6 _ _ hpp ppf) ppf, by omega, gc.sm (by decide), fun j hj => (gy j hj).sm (by decide), fun q2 H8 s8 nq2 hq2 => ?_⟩
      exact ⟨q2, _, _, _, rfl, hq2, fun e => f7.there.1 (by rw [← e]; exact nq2), fun j hj => (gz j hj).add ((gc.mul (gy j hj)).le (by omega)), f7.same s8, (b6.trans b7).trans (Same.but s8)⟩
    rintro σ H6 ⟨lq, z, o6, o7, rfl, hlq, lqf, gz, f6, b6⟩
    rw [lx] at gz
    have gz : ∀ j, j < ww → Bz 198 (z j) := fun j hj => (gz j hj).le (by omega)
    refine ⟨_, rfl, lq, _, rfl, .inl (SqL.of hlq), fun ch nch => ?_⟩
    have chf : ch ≠ fe := fun e => f6.there.1 (by rw [← e]; exact nch)
    have chc : ch ≠ cl := fun e => f6.there.2 (by rw [← e]; exact nch)
    refine ⟨fun σ' H' => ∃ zc o9 o10, σ' = [some (.ref a), some (.ref fe), some (.int (ww : Nat)), some (.int m), some (.ref q), some (.ref lq), o6, o7, some (.ref ch), o9, o10, none, none, none] ∧ H' ch = some (.lst (iV ww zc)) ∧ (∀ j, j < ww → Bz 200 (zc j)) ∧ FeedAt H' fe cl ∧ But fe H6 H', ?_, ?_⟩
    · refine ⟨_, rfl, _, _, rfl, rfl, _, rfl, ite2 (fun wp => ?_) (fun _ => ?_)⟩
      · have wp : 0 < ww := by
          have := of_decide_eq_true wp
          omega
        have f7 : FeedAt (upd H6 ch (.lst (iV ww z))) fe cl := f6.same (Same.upd nch)
        refine ⟨_, rfl, _, rfl, fe, cl, ((ww : Nat) : Int), rfl, f7, by omega, by omega, fun t H8 t0 t1 f8 b8 => ?_⟩
        obtain ⟨tt, rfl⟩ : ∃ n : Nat, t = (n : Int) := ⟨t.toNat, by omega⟩
        have htt : tt < ww := by omega
        refine ⟨_, rfl, fe, cl, 6, rfl, f8, by decide, by decide, fun st H9 st0 st1 f9 b9 => ⟨_, _, rfl, rfl, ?_⟩⟩
        have b69 : But fe (upd H6 ch (.lst (iV ww z))) H9 := b8.trans b9
        refine ⟨fun σ' H' => ∃ st, σ' = [some (.ref a), some (.ref fe), some (.int (ww : Nat)), some (.int m), some (.ref q), some (.ref lq), o6, o7, some (.ref ch), some (.int (tt : Nat)), some (.int st), none, none, none] ∧ Bz 171 st ∧ FeedAt H' fe cl ∧ But fe (upd H6 ch (.lst (iV ww z))) H', ?_, ?_⟩
        · have small : Bz 171 (1 + st) := Bz.le (a := 3) (by show (1 + st).natAbs < 8; omega) (by decide)
          refine ⟨_, rfl, fe, cl, 3, rfl, f9, by decide, by decide, fun r H10 r0 r1 f10 b10 => ?_⟩
          have b610 := b69.trans b10
          have tab10 := (tab4.but (b6.trans (Same.but (Same.upd (o := .lst (iV ww z)) nch)))).but b610
          obtain ⟨xs, hq10, _, lx, ex⟩ := tab10
          refine ⟨rfl, _, rfl, ite2 (fun _ => ?_) (fun _ => ⟨_, rfl, small, f10, b610⟩)⟩
          refine ⟨_, rfl, q, _, rfl, .inl (SqL.of hq10), _, _, rfl, rfl, _, rfl, ite2 (fun np => ?_) (fun _ => ⟨_, rfl, small, f10, b610⟩)⟩
          have np : 0 < n := by
            have := of_decide_eq_true np
            omega
          refine ⟨_, rfl, _, rfl, _, rfl, q, _, rfl, .inl (SqL.of hq10), fe, cl, ((xs.length : Nat) : Int), rfl, f10, by omega, by omega, fun u H11 u0 u1 f11 b11 => ?_⟩
          obtain ⟨uu, rfl⟩ : ∃ n : Nat, u = (n : Int) := ⟨u.toNat, by omega⟩
          have huu : uu < n := by omega
          obtain ⟨pp, hxp, hpp, ppf⟩ := ex uu huu
          refine ⟨q, _, _, _, rfl, rfl, SqL.of (b11 _ _ hq10 qf), at_of rfl hxp, ?_⟩
          have hp11 := b11 _ _ hpp ppf
          rw [iV_map] at hp11
          refine ⟨pp, _, rfl, SqL.of hp11, by rw [List.length_map, List.length_range]; exact wp, fun mx hmx _ => ?_⟩
          obtain ⟨j, hj, rfl⟩ := List.mem_map.mp hmx
          exact ⟨_, rfl, B.gy uu huu j (List.mem_range.mp hj), f11, b610.trans b11⟩
        rintro σ' H10 ⟨st, rfl, gst, f10, b10⟩
        have hch := b10 _ _ upd_same chf
        refine ⟨_, rfl, _, rfl, ch, _, _, _, rfl, rfl, SqL.of hch, at_of rfl (iV_get htt), _, rfl, _, rfl, fe, cl, 2, rfl, f10, by decide, by decide, fun d H11 d0 d1 f11 b11 => ?_⟩
        have hd : Bz 1 d := by show d.natAbs < 2; omega
        have h3 : Bz 1 (1 - 2 * d) := by show (1 - 2 * d).natAbs < 2; omega
        refine ⟨_, _, rfl, rfl, wide_mul (show ((2 : Int)).natAbs < 2 ^ 2 by decide) hd (by decide) (by decide) (by decide), _, _, rfl, rfl, _, _, rfl, rfl, wide_mul gst h3 (by decide) (by decide) (by decide), _, _, rfl, rfl, ?_⟩
        refine ⟨_, rfl, _, rfl, ch, _, _, tt, rfl, rfl, b11 _ _ hch chf, ixN_at rfl (by rw [iV_len]; exact htt), ?_⟩
        rw [iV_set htt]
        refine ⟨_, _, _, rfl, upd_same, fun j hj => ?_, f11.other chf chc, ((Same.but (Same.upd nch)).trans (b10.trans b11)).put nch⟩
        by_cases e : j = tt
        · rw [e, ext_eq]
          exact ((gz tt htt).add ((gst.mul h3).le (by decide))).le (by decide)
        · rw [ext_ne e]
          exact (gz j hj).le (by decide)
      · exact ⟨z, _, _, rfl, upd_same, fun j hj => (gz j hj).le (by decide), f6.same (Same.upd nch), Same.but (Same.upd nch)⟩
    rintro σ' H7 ⟨zc, o9, o10, rfl, hch, gzc, f7, b7⟩
    refine ⟨_, rfl, _, rfl, by omega, by omega, fun Dr nDr => ?_⟩
    have Drf : Dr ≠ fe := fun e => f7.there.1 (by rw [← e]; exact nDr)
    have Drc : Dr ≠ cl := fun e => f7.there.2 (by rw [← e]; exact nDr)
    refine lc_it (walk_range (lo := 0) (n := ((ww : Nat) : Int).toNat)) (fun j G => ∃ zd, G Dr = some (.lst (iV j zd)) ∧ (∀ t, t < j → Bz 200 (zd t)) ∧ FeedAt G fe cl ∧ But fe H7 G) ⟨fun _ => 0, upd_same, fun t h => absurd h (by omega), f7.other Drf Drc, Same.but (Same.upd nDr)⟩ (fun _ _ _ _ => trivial) ?_ ?_
    · rintro j x G1 G2 hj ⟨zd, hG, gd, fG, bG⟩ ⟨rfl, rfl⟩
      refine ⟨rfl, _, rfl, fe, cl, 25, rfl, fG, by decide, by decide, fun r G3 r0 r1 f3 b3 => ⟨_, _, rfl, rfl, _, b3 _ _ hG Drf, by rw [iV_len]; exact small1000 (by omega), ext zd j (r - 12), ?_, fun t ht => ?_, f3.other Drf Drc, (bG.trans b3).put nDr⟩⟩
      · rw [upd_same, iV_ext1]
      · by_cases e : t = j
        · rw [e, ext_eq]
          exact Bz.le (a := 5) (by show (r - 12).natAbs < 32; omega) (by decide)
        · rw [ext_ne e]
          exact gd t (by omega)
    rintro H8 ⟨zd, hdr, gd, f8, b8⟩
    rw [Int.toNat_natCast] at hdr gd
    have b48 : But fe H4 H8 := (b6.trans b7).trans b8
    have tab8 := tab4.but b48
    have hlq8 := b8 _ _ (b7 _ _ hlq lqf) lqf
    have hch8 := b8 _ _ hch chf
    refine ⟨_, rfl, by decide, by decide, for_range (n := 2) (fun i σ H' => ∃ o6 o12, σ = [some (.ref a), some (.ref fe), some (.int (ww : Nat)), some (.int m), some (.ref q), some (.ref lq), o6, o7, some (.ref ch), o9, o10, some (.ref Dr), o12, none] ∧ Same H8 H') ⟨_, _, rfl, Same.refl⟩ ?_ ?_⟩
    · rintro i σ H9 hi ⟨o6, o12, rfl, s9⟩
      refine ⟨_, rfl, _, rfl, _, rfl, _, rfl, _, rfl, by omega, by omega, fun Z nZ => ?_⟩
      refine lc_it (walk_range (lo := 0) (n := ((ww : Nat) : Int).toNat)) (fun j G => G Z = some (.lst (iV j fun _ => 0)) ∧ Same H9 G) ⟨upd_same, Same.upd nZ⟩ (fun _ _ _ _ => trivial) ?_ ?_
      · rintro j x G1 G2 hj ⟨hG, sG⟩ ⟨rfl, rfl⟩
        refine ⟨rfl, _, hG, by rw [iV_len]; exact small1000 (by omega), ?_, ?_⟩
        · rw [upd_same, iV_succ]
        · intro c o e
          rw [upd_ne (ne_of_none e nZ)]
          exact sG _ _ e
      rintro H10 ⟨hZ, s10⟩
      rw [Int.toNat_natCast] at hZ
      refine ⟨_, rfl, (by show 5 ≤ sizeLine; decide), fun L5 n5 => ?_⟩
      have s11 : Same H10 (upd H10 L5 (.lst [.ref lq, .ref ch, .ref Dr, .ref Z, .ref lq])) := Same.upd n5
      have s811 := (s9.trans s10).trans s11
      have all : ∀ (t : Nat) (x : V), ([V.ref lq, .ref ch, .ref Dr, .ref Z, .ref lq] : List V)[t]? = some x → ∃ l z, x = .ref l ∧ upd H10 L5 (.lst [.ref lq, .ref ch, .ref Dr, .ref Z, .ref lq]) l = some (.lst (iV ww z)) ∧ ∀ j, j < ww → Bz 200 (z j) := fun t x ht => by
        match t with
        | 0 => cases ht; exact ⟨lq, z, rfl, s811 _ _ hlq8, fun j hj => (gz j hj).le (by decide)⟩
        | 1 => cases ht; exact ⟨ch, zc, rfl, s811 _ _ hch8, gzc⟩
        | 2 => cases ht; exact ⟨Dr, zd, rfl, s811 _ _ hdr, gd⟩
        | 3 => cases ht; exact ⟨Z, _, rfl, s11 _ _ hZ, fun j _ => (by show (0 : Int).natAbs < _; exact Nat.two_pow_pos _)⟩
        | 4 => cases ht; exact ⟨lq, z, rfl, s811 _ _ hlq8, fun j hj => (gz j hj).le (by decide)⟩
        | t + 5 => simp at ht
      have tab11 := tab8.l.same s811
      have hL5 : upd H10 L5 (.lst [.ref lq, .ref ch, .ref Dr, .ref Z, .ref lq]) L5 = _ := upd_same
      generalize upd H10 L5 (.lst [.ref lq, .ref ch, .ref Dr, .ref Z, .ref lq]) = H11 at *
      refine ⟨L5, rfl, ⟨_, SqL.of hL5⟩, for_list (xs := [V.ref lq, .ref ch, .ref Dr, .ref Z, .ref lq]) (fun t σ H' => ∃ o6, σ = [some (.ref a), some (.ref fe), some (.int (ww : Nat)), some (.int m), some (.ref q), some (.ref lq), o6, o7, some (.ref ch), o9, o10, some (.ref Dr), some (.int (0 + (i : Int))), none] ∧ Same H11 H')
        ⟨_, rfl, Same.refl⟩ (fun t σ H' _ h => by obtain ⟨_, _, s⟩ := h; exact SqL.of (s _ _ hL5)) ?_ ?_⟩
      · rintro t x σ H12 hx ⟨o6, rfl, s12⟩
        obtain ⟨l, z, rfl, hl11, gz⟩ := all t x hx
        refine ⟨_, rfl, _, rfl, q, l, n, ww, y, p, z, rfl, tab11.same s12, s12 _ _ hl11, ⟨hw, hn, B.lead, B.gy, gz⟩, fun H13 s13 => ⟨true, rfl, ?_⟩⟩
        refine iteF ?_
        refine ⟨(by show 0 ≤ sizeLine; decide), fun E0 nE => ?_⟩
        have s14 : Same H13 (upd H13 E0 (.lst [])) := Same.upd nE
        refine ⟨_, rfl, E0, l, 0, ww, y, p, z, rfl, ⟨[], upd_same, rfl, fun i hi => absurd hi (by omega)⟩, s14 _ _ (s13 _ _ (s12 _ _ hl11)), ⟨hw, by omega, fun i hi => absurd hi (by omega), fun i hi => absurd hi (by omega), gz⟩, fun H15 s15 => ⟨true, rfl, ?_⟩⟩
        refine iteF ?_
        exact ⟨_, rfl, ((s12.trans s13).trans s14).trans s15⟩
      · rintro σ H12 ⟨o6, rfl, s12⟩
        exact ⟨_, _, rfl, s811.trans s12⟩
    · rintro σ H9 ⟨o6, o12, rfl, s9⟩
      exact k _
end
end RX

set_option Elab.async false
set_option maxRecDepth 100000
namespace RX
open PySem L2

set_option maxHeartbeats 0 in
theorem all_mk {l : PySem.W.OpenLaw} {w : World} {K : PySem.W.Frag} {h : Heap} {mg : Str → Option Value} {fa fLe fPi fLs fFe fDr fGr fIs fEn fBa fMi fLp fAs fL : Addr} (X : K.In h) (G : h.Ns mainGlobals mg) (hfa : mg "law" = some (.ref fa))
    {odLe odPi odLs odFe odDr odGr odIs odEn odBa odMi odLp odAs odL anLe anPi anLs anFe anDr anGr anIs anEn anBa anMi anLp anAs anL : Option Addr} {slLe slPi slLs slFe slDr slGr slIs slEn slBa slMi slLp slAs slL : Array (Option Value)} {ocLe kVLe dcLe pmLe cdLe ctLe ocPi kVPi dcPi pmPi cdPi ctPi ocLs kVLs dcLs pmLs cdLs ctLs ocFe kVFe dcFe pmFe cdFe ctFe ocDr kVDr dcDr pmDr cdDr ctDr ocGr kVGr dcGr pmGr cdGr ctGr ocIs kVIs dcIs pmIs cdIs ctIs ocEn kVEn dcEn pmEn cdEn ctEn ocBa kVBa dcBa pmBa cdBa ctBa ocMi kVMi dcMi pmMi cdMi ctMi ocLp kVLp dcLp pmLp cdLp ctLp ocAs kVAs dcAs pmAs cdAs ctAs ocL kVL dcL pmL cdL ctL : Value} 
    (aLe : PySem.W.nsIn K mainGlobals "leading_place" = some (some (.ref fLe)))
    (lLe : K.lookup fLe = some ⟨ocLe, odLe, .func (PySem.W.fnOf "leading_place" "leading_place" (defArgs sLead) (defBody sLead) (defScope sLead) .none kVLe dcLe pmLe anLe cdLe ctLe), slLe⟩)
    (cLe : PySem.W.codeIn K cdLe "leading_place" = true)
    (kLe : PySem.W.keepIn K (.ref fLe) = true)
    (aPi : PySem.W.nsIn K mainGlobals "pieces" = some (some (.ref fPi)))
    (lPi : K.lookup fPi = some ⟨ocPi, odPi, .func (PySem.W.fnOf "pieces" "pieces" (defArgs sPieces) (defBody sPieces) (defScope sPieces) .none kVPi dcPi pmPi anPi cdPi ctPi), slPi⟩)
    (cPi : PySem.W.codeIn K cdPi "pieces" = true)
    (kPi : PySem.W.keepIn K (.ref fPi) = true)
    (aLs : PySem.W.nsIn K mainGlobals "_less" = some (some (.ref fLs)))
    (lLs : K.lookup fLs = some ⟨ocLs, odLs, .func (PySem.W.fnOf "_less" "_less" (defArgs sLess) (defBody sLess) (defScope sLess) .none kVLs dcLs pmLs anLs cdLs ctLs), slLs⟩)
    (cLs : PySem.W.codeIn K cdLs "_less" = true)
    (kLs : PySem.W.keepIn K (.ref fLs) = true)
    (aFe : PySem.W.nsIn K mainGlobals "_law_feed" = some (some (.ref fFe)))
    (lFe : K.lookup fFe = some ⟨ocFe, odFe, .func (PySem.W.fnOf "_law_feed" "_law_feed" (defArgs sFeed) (defBody sFeed) (defScope sFeed) .none kVFe dcFe pmFe anFe cdFe ctFe), slFe⟩)
    (cFe : PySem.W.codeIn K cdFe "_law_feed" = true)
    (kFe : PySem.W.keepIn K (.ref fFe) = true)
    (aDr : PySem.W.nsIn K mainGlobals "_law_draw" = some (some (.ref fDr)))
    (lDr : K.lookup fDr = some ⟨ocDr, odDr, .func (PySem.W.fnOf "_law_draw" "_law_draw" (defArgs sDraw) (defBody sDraw) (defScope sDraw) .none kVDr dcDr pmDr anDr cdDr ctDr), slDr⟩)
    (cDr : PySem.W.codeIn K cdDr "_law_draw" = true)
    (kDr : PySem.W.keepIn K (.ref fDr) = true)
    (aGr : PySem.W.nsIn K mainGlobals "_law_great" = some (some (.ref fGr)))
    (lGr : K.lookup fGr = some ⟨ocGr, odGr, .func (PySem.W.fnOf "_law_great" "_law_great" (defArgs sGreat) (defBody sGreat) (defScope sGreat) .none kVGr dcGr pmGr anGr cdGr ctGr), slGr⟩)
    (cGr : PySem.W.codeIn K cdGr "_law_great" = true)
    (kGr : PySem.W.keepIn K (.ref fGr) = true)
    (aIs : PySem.W.nsIn K mainGlobals "_law_is_integer" = some (some (.ref fIs)))
    (lIs : K.lookup fIs = some ⟨ocIs, odIs, .func (PySem.W.fnOf "_law_is_integer" "_law_is_integer" (defArgs sIsInt) (defBody sIsInt) (defScope sIsInt) .none kVIs dcIs pmIs anIs cdIs ctIs), slIs⟩)
    (cIs : PySem.W.codeIn K cdIs "_law_is_integer" = true)
    (kIs : PySem.W.keepIn K (.ref fIs) = true)
    (aEn : PySem.W.nsIn K mainGlobals "_law_entry" = some (some (.ref fEn)))
    (lEn : K.lookup fEn = some ⟨ocEn, odEn, .func (PySem.W.fnOf "_law_entry" "_law_entry" (defArgs sEntry) (defBody sEntry) (defScope sEntry) .none kVEn dcEn pmEn anEn cdEn ctEn), slEn⟩)
    (cEn : PySem.W.codeIn K cdEn "_law_entry" = true)
    (kEn : PySem.W.keepIn K (.ref fEn) = true)
    (aBa : PySem.W.nsIn K mainGlobals "_law_basis" = some (some (.ref fBa)))
    (lBa : K.lookup fBa = some ⟨ocBa, odBa, .func (PySem.W.fnOf "_law_basis" "_law_basis" (defArgs sBasis) (defBody sBasis) (defScope sBasis) .none kVBa dcBa pmBa anBa cdBa ctBa), slBa⟩)
    (cBa : PySem.W.codeIn K cdBa "_law_basis" = true)
    (kBa : PySem.W.keepIn K (.ref fBa) = true)
    (aMi : PySem.W.nsIn K mainGlobals "_law_mixed" = some (some (.ref fMi)))
    (lMi : K.lookup fMi = some ⟨ocMi, odMi, .func (PySem.W.fnOf "_law_mixed" "_law_mixed" (defArgs sMixed) (defBody sMixed) (defScope sMixed) .none kVMi dcMi pmMi anMi cdMi ctMi), slMi⟩)
    (cMi : PySem.W.codeIn K cdMi "_law_mixed" = true)
    (kMi : PySem.W.keepIn K (.ref fMi) = true)
    (aLp : PySem.W.nsIn K mainGlobals "_law_pieces" = some (some (.ref fLp)))
    (lLp : K.lookup fLp = some ⟨ocLp, odLp, .func (PySem.W.fnOf "_law_pieces" "_law_pieces" (defArgs sLPieces) (defBody sLPieces) (defScope sLPieces) .none kVLp dcLp pmLp anLp cdLp ctLp), slLp⟩)
    (cLp : PySem.W.codeIn K cdLp "_law_pieces" = true)
    (kLp : PySem.W.keepIn K (.ref fLp) = true)
    (aAs : PySem.W.nsIn K mainGlobals "_law_asked" = some (some (.ref fAs)))
    (lAs : K.lookup fAs = some ⟨ocAs, odAs, .func (PySem.W.fnOf "_law_asked" "_law_asked" (defArgs sAsked) (defBody sAsked) (defScope sAsked) .none kVAs dcAs pmAs anAs cdAs ctAs), slAs⟩)
    (cAs : PySem.W.codeIn K cdAs "_law_asked" = true)
    (kAs : PySem.W.keepIn K (.ref fAs) = true)
    (aL : PySem.W.nsIn K mainGlobals "law" = some (some (.ref fL)))
    (lL : K.lookup fL = some ⟨ocL, odL, .func (PySem.W.fnOf "law" "law" (defArgs sLaw) (defBody sLaw) (defScope sLaw) .none kVL dcL pmL anL cdL ctL), slL⟩)
    (cL : PySem.W.codeIn K cdL "law" = true)
    (kL : PySem.W.keepIn K (.ref fL) = true)
    (z_abs : PySem.W.nsIn K mainGlobals "abs" = some none)
    (z_len : PySem.W.nsIn K mainGlobals "len" = some none)
    (z_int : PySem.W.nsIn K mainGlobals "int" = some none)
    (z_max : PySem.W.nsIn K mainGlobals "max" = some none)
    (z_range : PySem.W.nsIn K mainGlobals "range" = some none)
    (z_isinstance : PySem.W.nsIn K mainGlobals "isinstance" = some none)
    (z_bool : PySem.W.nsIn K mainGlobals "bool" = some none)
    (z_list : PySem.W.nsIn K mainGlobals "list" = some none)
    (z_tuple : PySem.W.nsIn K mainGlobals "tuple" = some none)
    (z_zip : PySem.W.nsIn K mainGlobals "zip" = some none)
    (z_enumerate : PySem.W.nsIn K mainGlobals "enumerate" = some none)
    : ∃ fd : FuncData, (∀ (s : Shared) (v : Value), BindsTo s fd ⟨[v], []⟩ [("script", v)]) ∧ ∀ base : Heap, K.In base → base.Ns mainGlobals mg → FnOk l.prog w K mg base CX0 5 fa fd ["script"] (spLaw K) := by
  have e := hfa.symm.trans (PySem.W.mg_of X G aL)
  cases e
  have T : TxtL mg := ⟨PySem.W.mg_none_of X G z_abs, PySem.W.mg_none_of X G z_len, PySem.W.mg_none_of X G z_int, PySem.W.mg_none_of X G z_max, PySem.W.mg_none_of X G z_range, PySem.W.mg_none_of X G z_isinstance, PySem.W.mg_none_of X G z_bool⟩
  have FLe := fun_mk (st := sLead) lLe cLe kLe
  have bLe := FLe.binds (ps := ["row"]) fun _ _ _ _ _ _ us hl => match us, hl with | [_], _ => rfl
  have mLe := PySem.W.mg_of X G aLe
  have FPi := fun_mk (st := sPieces) lPi cPi kPi
  have bPi := FPi.binds (ps := ["basis", "row"]) fun _ _ _ _ _ _ us hl => match us, hl with | [_, _], _ => rfl
  have mPi := PySem.W.mg_of X G aPi
  have FLs := fun_mk (st := sLess) lLs cLs kLs
  have bLs := FLs.binds (ps := ["row", "count", "other"]) fun _ _ _ _ _ _ us hl => match us, hl with | [_, _, _], _ => rfl
  have mLs := PySem.W.mg_of X G aLs
  have FFe := fun_mk (st := sFeed) lFe cFe kFe
  have bFe := FFe.binds (ps := ["script"]) fun _ _ _ _ _ _ us hl => match us, hl with | [_], _ => rfl
  have mFe := PySem.W.mg_of X G aFe
  have FDr := fun_mk (st := sDraw) lDr cDr kDr
  have bDr := FDr.binds (ps := ["feed", "limit"]) fun _ _ _ _ _ _ us hl => match us, hl with | [_, _], _ => rfl
  have mDr := PySem.W.mg_of X G aDr
  have FGr := fun_mk (st := sGreat) lGr cGr kGr
  have bGr := FGr.binds (ps := ["feed", "parts"]) fun _ _ _ _ _ _ us hl => match us, hl with | [_, _], _ => rfl
  have mGr := PySem.W.mg_of X G aGr
  have FIs := fun_mk (st := sIsInt) lIs cIs kIs
  have bIs := FIs.binds (ps := ["actual"]) fun _ _ _ _ _ _ us hl => match us, hl with | [_], _ => rfl
  have mIs := PySem.W.mg_of X G aIs
  have FEn := fun_mk (st := sEntry) lEn cEn kEn
  have bEn := FEn.binds (ps := ["feed", "parts"]) fun _ _ _ _ _ _ us hl => match us, hl with | [_, _], _ => rfl
  have mEn := PySem.W.mg_of X G aEn
  have FBa := fun_mk (st := sBasis) lBa cBa kBa
  have bBa := FBa.binds (ps := ["feed", "width", "parts"]) fun _ _ _ _ _ _ us hl => match us, hl with | [_, _, _], _ => rfl
  have mBa := PySem.W.mg_of X G aBa
  have FMi := fun_mk (st := sMixed) lMi cMi kMi
  have bMi := FMi.binds (ps := ["one", "count", "two"]) fun _ _ _ _ _ _ us hl => match us, hl with | [_, _, _], _ => rfl
  have mMi := PySem.W.mg_of X G aMi
  have FLp := fun_mk (st := sLPieces) lLp cLp kLp
  have bLp := FLp.binds (ps := ["basis", "line"]) fun _ _ _ _ _ _ us hl => match us, hl with | [_, _], _ => rfl
  have mLp := PySem.W.mg_of X G aLp
  have FAs := fun_mk (st := sAsked) lAs cAs kAs
  have bAs := FAs.binds (ps := ["basis", "line"]) fun _ _ _ _ _ _ us hl => match us, hl with | [_, _], _ => rfl
  have mAs := PySem.W.mg_of X G aAs
  refine ⟨PySem.W.fnOf "law" "law" (defArgs sLaw) (defBody sLaw) (defScope sLaw) .none kVL dcL pmL anL cdL ctL, fun s v => .of_eq rfl, fun base _ _ => ?_⟩
  have ml := PySem.W.mg_none_of X G z_list
  have mt := PySem.W.mg_none_of X G z_tuple
  have mz := PySem.W.mg_none_of X G z_zip
  have me := PySem.W.mg_none_of X G z_enumerate
  have cLe : CalN l.prog w K mg base "leading_place" 1 ["row"] spLead fLe _ := ⟨ok_le FLe me, mLe, kLe, bLe⟩
  have cLs : CalN l.prog w K mg base "_less" 1 ["row", "count", "other"] spLess fLs _ := ⟨ok_ls FLs mz, mLs, kLs, bLs⟩
  have cPi : CalN l.prog w K mg base "pieces" 2 ["basis", "row"] spPi fPi _ := ⟨ok_pi FPi mt cLe cLs, mPi, kPi, bPi⟩
  have cFe : CalN l.prog w K mg base "_law_feed" 1 ["script"] (spFeed K) fFe _ := ⟨ok_feed FFe T, mFe, kFe, bFe⟩
  have cDr : CalN l.prog w K mg base "_law_draw" 1 ["feed", "limit"] spDraw fDr _ := ⟨ok_draw FDr T, mDr, kDr, bDr⟩
  have cGr : CalN l.prog w K mg base "_law_great" 2 ["feed", "parts"] spGreat fGr _ := ⟨ok_great FGr T cDr, mGr, kGr, bGr⟩
  have cIs : CalN l.prog w K mg base "_law_is_integer" 1 ["actual"] spIsInt fIs _ := ⟨ok_isInt FIs T, mIs, kIs, bIs⟩
  have cEn : CalN l.prog w K mg base "_law_entry" 3 ["feed", "parts"] spEn fEn _ := ⟨ok_en FEn T cDr cGr, mEn, kEn, bEn⟩
  have cBa : CalN l.prog w K mg base "_law_basis" 4 ["feed", "width", "parts"] spBa fBa _ := ⟨ok_ba FBa T cDr cGr cEn, mBa, kBa, bBa⟩
  have cMi : CalN l.prog w K mg base "_law_mixed" 1 ["one", "count", "two"] spMi fMi _ := ⟨ok_mi FMi T, mMi, kMi, bMi⟩
  have cLp : CalN l.prog w K mg base "_law_pieces" 2 ["basis", "line"] spLp fLp _ := ⟨ok_lp FLp T ml cMi, mLp, kLp, bLp⟩
  have cAs : CalN l.prog w K mg base "_law_asked" 3 ["basis", "line"] spAs fAs _ := ⟨ok_as FAs T mt cLp cPi cIs, mAs, kAs, bAs⟩
  exact ok_law (fun_mk (st := sLaw) lL cL kL) T ml cFe cDr cGr cBa cMi cAs
theorem walk {l : PySem.W.OpenLaw} {q : Program} {loose : List Str} {XP : (Str → Option Value) → Heap → Prop} {YP : World → Heap → Prop} {d : DefRec} {K : Params → PySem.W.Frag} (hn : l.most = some 63) (hdf : d.params.defaults = [])
    (hY : ∀ (w : World) (h : Heap), YP w h → (K w.params).In h)
    (F : ∀ (w : World) (mg : Str → Option Value) (fa : Addr) (h : Heap), (K w.params).In h → h.Ns mainGlobals mg → mg d.name = some (.ref fa) →
      ∃ fd : FuncData, (∀ (s : Shared) (u : Value), BindsTo s fd ⟨[u], []⟩ [("script", u)]) ∧ ∀ base : Heap, (K w.params).In base → base.Ns mainGlobals mg → FnOk l.prog w (K w.params) mg base CX0 5 fa fd ["script"] (spLaw (K w.params))) :
    PySem.W.WalkO q loose XP YP l.row.toRowW d [] (fun f vs => PySem.call f vs) :=
  L2.walk_of (n := 63) (k := 5) (x := "script") (CX := fun _ => CX0) (sp := fun w => spLaw (K w.params)) hn (by decide) hdf ⟨rfl, by decide, by decide⟩ hY F (fun _ _ a ns hl _ hS => ⟨a, ns, rfl, hS, hl, fun _ => rfl⟩) fun _ _ _ _ _ z => z
end RX

set_option Elab.async false

open PySem PySem.W PyProof.Rows in
set_option maxRecDepth 100000 in
set_option maxHeartbeats 0 in
theorem PySem.Challenge.cw_wordworth_k09_pieces_holds : PySem.Challenge.rw_wordworth_k09_pieces.Holds := by
  w_on; o_law; k_head; (case hw => w_witness2)
  k_fill
  refine RX.walk (l := PySem.Challenge.rw_wordworth_k09_pieces) rfl rfl (fun w h Y => PySem.W.kIn_of Y) ?F
  case F =>
    intro w mg fa h KX G hmg
    refine' RX.all_mk KX G hmg ?aLe ?lLe ?cLe ?kLe ?aPi ?lPi ?cPi ?kPi ?aLs ?lLs ?cLs ?kLs ?aFe ?lFe ?cFe ?kFe ?aDr ?lDr ?cDr ?kDr ?aGr ?lGr ?cGr ?kGr ?aIs ?lIs ?cIs ?kIs ?aEn ?lEn ?cEn ?kEn ?aBa ?lBa ?cBa ?kBa ?aMi ?lMi ?cMi ?kMi ?aLp ?lLp ?cLp ?kLp ?aAs ?lAs ?cAs ?kAs ?aL ?lL ?cL ?kL ?z_abs ?z_len ?z_int ?z_max ?z_range ?z_isinstance ?z_bool ?z_list ?z_tuple ?z_zip ?z_enumerate
    (case aLe => k_is)
    (case lLe => k_is)
    (case cLe => k_is)
    (case kLe => k_is)
    (case aPi => k_is)
    (case lPi => k_is)
    (case cPi => k_is)
    (case kPi => k_is)
    (case aLs => k_is)
    (case lLs => k_is)
    (case cLs => k_is)
    (case kLs => k_is)
    (case aFe => k_is)
    (case lFe => k_is)
    (case cFe => k_is)
    (case kFe => k_is)
    (case aDr => k_is)
    (case lDr => k_is)
    (case cDr => k_is)
    (case kDr => k_is)
    (case aGr => k_is)
    (case lGr => k_is)
    (case cGr => k_is)
    (case kGr => k_is)
    (case aIs => k_is)
    (case lIs => k_is)
    (case cIs => k_is)
    (case kIs => k_is)
    (case aEn => k_is)
    (case lEn => k_is)
    (case cEn => k_is)
    (case kEn => k_is)
    (case aBa => k_is)
    (case lBa => k_is)
    (case cBa => k_is)
    (case kBa => k_is)
    (case aMi => k_is)
    (case lMi => k_is)
    (case cMi => k_is)
    (case kMi => k_is)
    (case aLp => k_is)
    (case lLp => k_is)
    (case cLp => k_is)
    (case kLp => k_is)
    (case aAs => k_is)
    (case lAs => k_is)
    (case cAs => k_is)
    (case kAs => k_is)
    (case aL => k_is)
    (case lL => k_is)
    (case cL => k_is)
    (case kL => k_is)
    (case z_abs => k_is)
    (case z_len => k_is)
    (case z_int => k_is)
    (case z_max => k_is)
    (case z_range => k_is)
    (case z_isinstance => k_is)
    (case z_bool => k_is)
    (case z_list => k_is)
    (case z_tuple => k_is)
    (case z_zip => k_is)
    (case z_enumerate => k_is)

