import PyProof.Rows.All
import Wide.All
import OpenK.AllK
import Wide.FinOn
import HandS.Call
import HandS.List
import HandS.Wide
import KE.KOpsOwn
import HandS.Rev
import PyProof.StrOps
import HandS.StrMore
import HandS.Style
import HandS.Text
import KE.KRevSl
import HandS.ForMost
import HandS.Gcd
import HandS.MakeKw
import HandS.IsInst
import HandS.Walk
import HandS.Codes
import PySem.Challenge.RW_wordworth_k10_words
/-! lowest terms, in plain Lean -/
namespace RT
def gg (t b : Int) : Int := ((Nat.gcd t.natAbs b.natAbs : Nat) : Int)
def byv (t b : Int) : Int := if b > 0 then gg t b else -(gg t b)
def top (t b : Int) : Int := t.fdiv (byv t b)
def bot (t b : Int) : Int := b.fdiv (byv t b)
theorem gg_pos {t b : Int} (h : b ≠ 0) : 0 < gg t b := by
  have : 0 < Nat.gcd t.natAbs b.natAbs := Nat.gcd_pos_of_pos_right _ (by omega)
  unfold gg; omega
theorem byv_ne {t b : Int} (h : b ≠ 0) : byv t b ≠ 0 := by
  have := gg_pos (t := t) h
  unfold byv; split <;> omega
theorem gg_dvd_l (t b : Int) : gg t b ∣ t := by
  unfold gg
  exact Int.ofNat_dvd_left.mpr (Nat.gcd_dvd_left _ _)
theorem gg_dvd_r (t b : Int) : gg t b ∣ b := by
  unfold gg
  exact Int.ofNat_dvd_left.mpr (Nat.gcd_dvd_right _ _)
theorem byv_dvd_l (t b : Int) : byv t b ∣ t := by
  unfold byv; split
  · exact gg_dvd_l t b
  · exact Int.neg_dvd.mpr (gg_dvd_l t b)
theorem byv_dvd_r (t b : Int) : byv t b ∣ b := by
  unfold byv; split
  · exact gg_dvd_r t b
  · exact Int.neg_dvd.mpr (gg_dvd_r t b)
theorem byv_natAbs (t b : Int) : (byv t b).natAbs = Nat.gcd t.natAbs b.natAbs := by
  unfold byv gg; split <;> simp
theorem fdiv_of_dvd {a b : Int} (hb : b ≠ 0) (h : b ∣ a) : a.fdiv b * b = a := by
  obtain ⟨k, rfl⟩ := h
  rw [Int.mul_fdiv_cancel_left _ hb, Int.mul_comm]
theorem top_mul {t b : Int} (h : b ≠ 0) : top t b * byv t b = t := fdiv_of_dvd (byv_ne h) (byv_dvd_l t b)
theorem bot_mul {t b : Int} (h : b ≠ 0) : bot t b * byv t b = b := fdiv_of_dvd (byv_ne h) (byv_dvd_r t b)
theorem bot_pos {t b : Int} (h : b ≠ 0) : 0 < bot t b := by
  have e := bot_mul (t := t) h
  have g := gg_pos (t := t) h
  unfold byv at e
  split at e
  · rename_i hb
    rcases Int.lt_trichotomy (bot t b) 0 with z | z | z
    · have := Int.mul_neg_of_neg_of_pos z g; omega
    · rw [z] at e; omega
    · exact z
  · rename_i hb
    rcases Int.lt_trichotomy (bot t b) 0 with z | z | z
    · have := Int.mul_neg_of_neg_of_pos z g
      have h2 : bot t b * -gg t b = -(bot t b * gg t b) := Int.mul_neg _ _
      omega
    · rw [z] at e; omega
    · exact z
theorem cop {t b : Int} (h : b ≠ 0) : Nat.Coprime (top t b).natAbs (bot t b).natAbs := by
  have e1 : (top t b).natAbs * Nat.gcd t.natAbs b.natAbs = t.natAbs := by
    rw [← byv_natAbs, ← Int.natAbs_mul, top_mul h]
  have e2 : (bot t b).natAbs * Nat.gcd t.natAbs b.natAbs = b.natAbs := by
    rw [← byv_natAbs, ← Int.natAbs_mul, bot_mul h]
  have hp : 0 < Nat.gcd t.natAbs b.natAbs := Nat.gcd_pos_of_pos_right _ (by omega)
  have : Nat.gcd ((top t b).natAbs * Nat.gcd t.natAbs b.natAbs) ((bot t b).natAbs * Nat.gcd t.natAbs b.natAbs) = Nat.gcd t.natAbs b.natAbs := by rw [e1, e2]
  rw [Nat.gcd_mul_right] at this
  unfold Nat.Coprime
  exact Nat.eq_of_mul_eq_mul_right hp (by rw [this, Nat.one_mul])
/-- two in lowest terms that are worth the same are the same -/
theorem uniq {n d n' d' : Int} (hd : 0 < d) (hd' : 0 < d') (c : Nat.Coprime n.natAbs d.natAbs) (c' : Nat.Coprime n'.natAbs d'.natAbs) (e : n * d' = n' * d) : n = n' ∧ d = d' := by
  have ea : n.natAbs * d'.natAbs = n'.natAbs * d.natAbs := by rw [← Int.natAbs_mul, e, Int.natAbs_mul]
  have h1 : d.natAbs ∣ d'.natAbs := c.symm.dvd_of_dvd_mul_left ⟨n'.natAbs, by rw [ea, Nat.mul_comm]⟩
  have h2 : d'.natAbs ∣ d.natAbs := c'.symm.dvd_of_dvd_mul_left ⟨n.natAbs, by rw [← ea, Nat.mul_comm]⟩
  have h3 : d.natAbs = d'.natAbs := Nat.dvd_antisymm h1 h2
  have h4 : d = d' := by omega
  subst h4
  exact ⟨Int.eq_of_mul_eq_mul_right (by omega) e, rfl⟩
theorem same {t b t' b' : Int} (h : b ≠ 0) (h' : b' ≠ 0) (e : t * b' = t' * b) : top t b = top t' b' ∧ bot t b = bot t' b' := by
  refine uniq (bot_pos h) (bot_pos h') (cop h) (cop h') ?_
  have e1 := top_mul (t := t) h
  have e2 := bot_mul (t := t) h
  have e3 := top_mul (t := t') h'
  have e4 := bot_mul (t := t') h'
  refine Int.eq_of_mul_eq_mul_right (byv_ne (t := t) h) (Int.eq_of_mul_eq_mul_right (byv_ne (t := t') h') ?_)
  calc top t b * bot t' b' * byv t b * byv t' b' = (top t b * byv t b) * (bot t' b' * byv t' b') := by ac_rfl
    _ = t * b' := by rw [e1, e4]
    _ = t' * b := e
    _ = (top t' b' * byv t' b') * (bot t b * byv t b) := by rw [e3, e2]
    _ = top t' b' * bot t b * byv t b * byv t' b' := by ac_rfl
/-- what is in lowest terms stays -/
theorem keeps {n d : Int} (hd : 0 < d) (c : Nat.Coprime n.natAbs d.natAbs) : top n d = n ∧ bot n d = d := by
  have h : d ≠ 0 := by omega
  refine uniq (bot_pos h) hd (cop h) c ?_
  have e1 := top_mul (t := n) h
  have e2 := bot_mul (t := n) h
  refine Int.eq_of_mul_eq_mul_right (byv_ne (t := n) h) ?_
  calc top n d * d * byv n d = (top n d * byv n d) * d := by ac_rfl
    _ = n * d := by rw [e1]
    _ = n * (bot n d * byv n d) := by rw [e2]
    _ = n * bot n d * byv n d := by ac_rfl
theorem one (t : Int) : top t 1 = t ∧ bot t 1 = 1 := keeps (by decide) (Nat.coprime_one_right _)
/-- worth: the fraction is the same number -/
theorem cross {t b : Int} (h : b ≠ 0) : top t b * b = t * bot t b := by
  have e1 := top_mul (t := t) h
  have e2 := bot_mul (t := t) h
  have e : top t b * b = top t b * (bot t b * byv t b) := by rw [e2]
  have e' : t * bot t b = (top t b * byv t b) * bot t b := by rw [e1]
  rw [e, e']; ac_rfl
theorem top_le {t b : Int} (h : b ≠ 0) : (top t b).natAbs ≤ t.natAbs := by
  have e1 : (top t b).natAbs * (byv t b).natAbs = t.natAbs := by rw [← Int.natAbs_mul, top_mul h]
  have : 0 < (byv t b).natAbs := by have := byv_ne (t := t) h; omega
  rw [← e1]; exact Nat.le_mul_of_pos_right _ this
theorem bot_le {t b : Int} (h : b ≠ 0) : (bot t b).natAbs ≤ b.natAbs := by
  have e1 : (bot t b).natAbs * (byv t b).natAbs = b.natAbs := by rw [← Int.natAbs_mul, bot_mul h]
  have : 0 < (byv t b).natAbs := by have := byv_ne (t := t) h; omega
  rw [← e1]; exact Nat.le_mul_of_pos_right _ this
theorem byv_le {t b : Int} (h : b ≠ 0) : (byv t b).natAbs ≤ b.natAbs := by
  rw [byv_natAbs]; exact Nat.le_of_dvd (by omega) (Nat.gcd_dvd_right _ _)
/-- minus and less -/
theorem neg_cop {n d : Int} (c : Nat.Coprime n.natAbs d.natAbs) : Nat.Coprime (0 - n).natAbs d.natAbs := by
  have : (0 - n).natAbs = n.natAbs := by omega
  rw [this]; exact c
/-- distributive, over lowest terms -/
theorem chain {a b c d e f : Int} (hb : b ≠ 0) (hd : d ≠ 0) (hf : f ≠ 0) :
    top (top (a * e) (b * f) * bot (c * e) (d * f) + top (c * e) (d * f) * bot (a * e) (b * f)) (bot (a * e) (b * f) * bot (c * e) (d * f))
      = top (top (a * d + c * b) (b * d) * e) (bot (a * d + c * b) (b * d) * f) ∧
    bot (top (a * e) (b * f) * bot (c * e) (d * f) + top (c * e) (d * f) * bot (a * e) (b * f)) (bot (a * e) (b * f) * bot (c * e) (d * f))
      = bot (top (a * d + c * b) (b * d) * e) (bot (a * d + c * b) (b * d) * f) := by
  have h1 : b * f ≠ 0 := Int.mul_ne_zero hb hf
  have h2 : d * f ≠ 0 := Int.mul_ne_zero hd hf
  have h3 : b * d ≠ 0 := Int.mul_ne_zero hb hd
  have p1 := bot_pos (t := a * e) h1
  have p2 := bot_pos (t := c * e) h2
  have p3 := bot_pos (t := a * d + c * b) h3
  have x1 := cross (t := a * e) h1
  have x2 := cross (t := c * e) h2
  have x3 := cross (t := a * d + c * b) h3
  generalize top (a * e) (b * f) = n1 at *
  generalize bot (a * e) (b * f) = d1 at *
  generalize top (c * e) (d * f) = n2 at *
  generalize bot (c * e) (d * f) = d2 at *
  generalize top (a * d + c * b) (b * d) = n3 at *
  generalize bot (a * d + c * b) (b * d) = d3 at *
  refine same (Int.mul_ne_zero (by omega) (by omega)) (Int.mul_ne_zero (by omega) hf) ?_
  -- (n1 d2 + n2 d1) (d3 f) = (n3 e) (d1 d2)
  refine Int.eq_of_mul_eq_mul_right h3 (Int.eq_of_mul_eq_mul_right hf ?_)
  have L : (n1 * d2 + n2 * d1) * (d3 * f) * (b * d) * f = ((n1 * (b * f)) * (d2 * d * d3) + (n2 * (d * f)) * (d1 * b * d3)) * f := by
    simp only [Int.add_mul, Int.mul_add]
    congr 1 <;> ac_rfl
  have R : n3 * e * (d1 * d2) * (b * d) * f = (n3 * (b * d)) * (e * d1 * d2 * f) := by ac_rfl
  rw [L, R, x1, x2, x3]
  simp only [Int.add_mul, Int.mul_add]
  congr 1 <;> ac_rfl
end RT

set_option Elab.async false
set_option maxRecDepth 100000
namespace RX
open PySem PySem.Spec PyProof.Rows L2
/-- // by a divisor of either sign, below 2 ^ 9000 -/
def CDivZ (_ j : Int) : Prop := j ≠ 0 ∧ j.natAbs.log2 < 9000
theorem op_fdivZ {X : Cx} : OpR X (binaryOp .FloorDiv) (rI CDivZ fun i j => .int (i.fdiv j)) := opI fun _ _ _ _ _ _ _ hc q => floordiv_int hc.1 q (.inl (PyProof.noPylong_of_log2 hc.2))
theorem divZ {i j : Int} {b : Nat} (h : j ≠ 0) (hb : j.natAbs < 2 ^ b) (h0 : 0 < b) (h9 : b ≤ 9000) : CDivZ i j := ⟨h, Nat.lt_of_lt_of_le (PySem.Flt.log2_lt_of h0 hb) h9⟩
/-- the class at C has the operator op as the def at f -/
structure OpOf (K : PySem.W.Frag) (C : Addr) (x : Str) (f : Addr) : Prop where
  first : PySem.W.selfFirst K C = true
  at_ : PySem.W.findIn K (.ref C) x = some (some (.ref f))
  fn : PySem.W.isFn K (.ref f) = true
/-- a op b, both instances of the class at C: what the operator's def promises; it hands back an object -/
def rOwn (C : Addr) (sp : Sp) (E : XK) : R2 := fun x y H Q => ∃ a b dx dy fs gs, x = .ref a ∧ y = .ref b ∧ H a = some (.ins C dx fs) ∧ H b = some (.ins C dy gs) ∧ sp [.ref a, .ref b] H (fun v H' => (∃ c, v = .ref c) ∧ Q v H') E
def rOwn1 (C : Addr) (sp : Sp) (E : XK) : V → Hp → VK → Prop := fun x H Q => ∃ a dx fs, x = .ref a ∧ H a = some (.ins C dx fs) ∧ sp [.ref a] H Q E
section
variable {X : Cx} {CX : CXT} {k : Nat} {C f : Addr} {fd : FuncData} {ps : List Str} {sp : Sp} {E : XK}
theorem op_own {op : Operator} (O : OpOf X.K C (PySem.dunder op.info.2) f) (F : FnOk X.prog X.w X.K X.mg X.base CX k f fd ps sp) (hr : Room k X.A) (hb : Binds X.K fd ps []) (hx : Passes CX X E) : OpR X (binaryOp op) (rOwn C sp E) := by
  intro pins s σ H x y v u Q I rx ry h
  obtain ⟨a, b, dx, dy, fs, gs, rfl, rfl, ha, hb', hs⟩ := h
  cases rx
  cases ry
  obtain ⟨mA, J, _⟩ := ins_get I.hok ha
  obtain ⟨mB, J', _⟩ := ins_get I.hok hb'
  obtain ⟨od, J, _⟩ := J.look
  obtain ⟨od', J', _⟩ := J'.look
  obtain ⟨m, hF⟩ := I.fr
  refine PySem.W.binop_K hF I.ok.mod.kin J J'.type O.first O.at_ O.fn ?_
  refine thn (run_fn (us := [.ref a, .ref b]) (vs := [.ref a, .ref b]) (dvs := []) (ds := []) F hr hb .nil hx I (.cons rfl (.cons rfl .nil)) hs) fun w' s' hq => ?_
  obtain ⟨z, H', I', rz, ⟨c, ez⟩, q⟩ := hq
  subst ez
  cases rz
  exact ⟨.ref c, H', I', rfl, q⟩
theorem un_own {op : UnaryOp} (h1 : op = .USub) (hs : PySem.W.findIn X.K (.ref C) "__neg__" = some (some (.ref f))) (hf : PySem.W.isFn X.K (.ref f) = true) (F : FnOk X.prog X.w X.K X.mg X.base CX k f fd ps sp) (hr : Room k X.A) (hb : Binds X.K fd ps []) (hx : Passes CX X E) : UnR X (unaryOp op) (rOwn1 C sp E) := by
  subst h1
  intro pins s σ H x v Q I rx h
  obtain ⟨a, dx, fs, rfl, ha, hsp⟩ := h
  cases rx
  obtain ⟨mA, J, _⟩ := ins_get I.hok ha
  obtain ⟨od, J, _⟩ := J.look
  obtain ⟨m, hF⟩ := I.fr
  refine PySem.W.ksp_neg hF I.ok.mod.kin J hs hf ?_
  exact run_fn (us := [.ref a]) (vs := [.ref a]) (dvs := []) (ds := []) F hr hb .nil hx I (.cons rfl .nil) hsp
end
end RX

set_option Elab.async false
set_option linter.all false
set_option maxRecDepth 100000
set_option maxHeartbeats 1000000
/-! for x in reversed(a string) -/
namespace RS
open PySem PySem.Spec PyProof.Rows L2
theorem str_norev : typeLookup (.type "str") "__reversed__" = pure none := by
  rw [typeLookup_type, builtinLookup_eq_fast]
  kernel_rfl
theorem str_get : typeLookup (.type "str") "__getitem__" = pure (some (.builtin "str.__getitem__")) := by
  rw [typeLookup_type, builtinLookup_eq_fast]
  kernel_rfl
/-- reversed(x) stands at a, the next place is i -/
def Back (h : Heap) (a : Addr) (x : Str) (t : Tok) (i : Int) : Prop := ∃ o, h.get? a = some o ∧ o.cls = .type "reversed" ∧ o.data = .fields #[.str x t, rawInt i]
theorem Back.at {h h' : Heap} {a : Addr} {x : Str} {t : Tok} {i : Int} (b : Back h a x t i) (e : ∀ o, h.get? a = some o → h'.get? a = some o) : Back h' a x t i :=
  let ⟨o, ho, r⟩ := b
  ⟨o, e _ ho, r⟩
def backO (x : Str) (t : Tok) (i : Int) : Obj := { cls := .type "reversed", data := .fields #[.str x t, rawInt i] }
section
variable {x : Str} {t : Tok} {s : Shared} {prog : Program} {w : World} {A : Around} {E : Value → Shared → Prop}
theorem Back.ty {a : Addr} {i : Int} (b : Back s.heap a x t i) : s.TypeIs (.ref a) "reversed" :=
  let ⟨o, ho, hc, _⟩ := b
  ⟨o, ho, hc⟩
theorem new_back {R : Value → Shared → Prop} (short : x.length ≤ sizeLine) (then_ : R (.ref s.heap.objs.size) { s with heap := s.heap.push (backO x t ((x.length : Int) - 1)), toks := s.toks + 1 + 1 }) :
    codeAny (model prog w) A (.call (.builtin "reversed.__new__") ⟨[.type "reversed", .str x t], []⟩) (wants R E) s := by
  have hT : s.TypeIs (.str x t) "str" := typeIs_str s x t
  have l63 := line63
  refine codeAny_of_tree ?_
  show wpAny _ A.in1 (checkBuiltinCall "reversed.__new__" ⟨[.type "reversed", .str x t], []⟩ >>= fun _ => again (.builtin "reversed.__new__" ⟨[.type "reversed", .str x t], []⟩)) _ _ s
  refine wpAny_bind (wpAny_of_eq (F.newCall_reversed_1 _) (wpAny_pure ?here))
  case here =>
    refine And.intro (plainId_quiet F.plain_reversed_new _) (codeAny_builtin F.entry_reversed_new ?_)
    have plain := F.plain_reversed_new
    rw [Around.under_plainId plain _]
    unfold Builtin.«reversed.__new__»
    refine wpAny_bind (wpAny_of_eq (newClass_reversed _) ?a1)
    case a1 =>
    try dsimp only
    refine wpAny_bind (wpAny_of_eq (a := ()) (by first | rfl | kernel_rfl) ?a2)
    case a2 =>
    try dsimp only
    refine wpAny_bind (wpAny_of_eq (a := ()) (by first | rfl | kernel_rfl) ?a3)
    case a3 =>
    try dsimp only
    refine wpAny_bind (wpAny_specialOf hT str_norev ?_)
    try dsimp only
    refine wpAny_bind ?_
    wp_delta
    refine wpAny_bind (wpAny_isInstance (U := "dict") hT PySem.F.sub_str_dict ?_)
    try dsimp only
    try rw [if_neg Bool.false_ne_true]
    try dsimp only
    refine wpAny_bind (wpAny_specialOf hT str_get ?_)
    try dsimp only
    try rw [if_pos (by decide +kernel)]
    refine wpAny_pure ?_
    try dsimp only
    try rw [if_neg (by decide)]
    try dsimp only
    refine wpAny_bind (PySem.P.len_str (by omega) ?_)
    refine wpAny_bind (wpAny_of_eq (a := some ((x.length : Nat) : Int)) rfl ?_)
    try dsimp only
    refine wpAny_bind ?_
    show wpAny _ _ (newObj (.type "reversed") (.fields #[.str x t, rawInt ((x.length : Int) - 1)])) _ _ _
    exact wpAny_newObj_type (wpAny_pure then_)
theorem call_back {Q : Value → Shared → Prop} (short : x.length ≤ sizeLine) (then_ : Q (.ref s.heap.objs.size) { s with heap := s.heap.push (backO x t ((x.length : Int) - 1)), toks := s.toks + 1 + 1 }) :
    wpAny (model prog w) A (call (.type "reversed") [.str x t]) Q E s := by
  refine callType_codes (Q₁ := fun o s1 => s1.TypeIs o "reversed" ∧ Q o s1) RT.called_rt (F.typeCall_reversed_1 _) F.entry_object_init (new_back short ⟨⟨_, Heap.get?_push_size _ rfl, rfl⟩, then_⟩) ?_
  rintro o s1 ⟨h1, h2⟩
  exact ⟨h1, F.args_object_init_2 o _, object_init_meets RT.called_rt.init.lookup RT.called_rt.made (by decide) prog w A.in1 _ s1 ⟨h1, rfl, h2⟩⟩
theorem back_item {it : Addr} {i c : Nat} {Q : Option Value → Shared → Prop} (hit : Back s.heap it x t (i : Int)) (short : x.length ≤ sizeLine) (hi : i < x.length) (hx : x.cps[i]? = some c)
    (then_ : ∀ h', Back h' it x t ((i : Int) - 1) → Heap.SameBut it s.heap h' → Q (some (.str ⟨#[c]⟩ (s.toks + 1))) { s with heap := h', toks := s.toks + 1 + 1 }) : wpAny (model prog w) A (pyNext (.ref it)) Q E s := by
  obtain ⟨o, ho, hc, hd⟩ := id hit
  have hT : s.TypeIs (.str x t) "str" := typeIs_str s x t
  have l63 := line63
  unfold pyNext
  refine wpAny_bind (wpAny_attempt (wpAny_callSpecial?_slot (name := Str.ofString "__next__") hit.ty RT.slot_rt_next (wpAny_call_entry RT.slot_rt_next hit.ty RT.entry_rt_next ?_ (RT.args_rt_next _))))
  unfold Builtin.«reversed.__next__»
  refine wpAny_bind (wpAny_of_eq (a := (Value.ref it, [])) rfl ?b1)
  case b1 =>
  try dsimp only
  refine wpAny_bind (wpAny_field ho hd (x := Value.str x t) rfl ?_)
  try dsimp only
  refine wpAny_bind (wpAny_field ho hd (x := rawInt (i : Int)) rfl ?b2)
  case b2 =>
  show wpAny _ A.in1 (if (i : Int) < 0 then _ else _) _ _ s
  rw [if_neg (by omega)]
  try dsimp only
  refine wpAny_bind (wpAny_specialOf hT str_get ?_)
  try dsimp only
  try rw [if_neg (by decide)]
  try dsimp only
  refine wpAny_bind (wpAny_mkInt ?_)
  refine wpAny_bind (wpAny_attempt ?_)
  have at_i : seqIndex? (i : Int) x.length = some i := seqIndex_of (by omega) (by omega)
  refine PySem.P.getItem_str (s := { s with toks := s.toks + 1 }) (c := c) (by
    rw [decide_eq_false (by omega), decide_eq_false (by omega)]
    rfl) (by rw [at_i]; exact hx) ?_
  try dsimp only
  refine wpAny_bind (wpAny_field (s := { s with toks := s.toks + 1 + 1 }) ho hd (x := rawInt (i : Int)) rfl ?b3)
  case b3 =>
  try dsimp only
  refine wpAny_bind (wpAny_setField (s := { s with toks := s.toks + 1 + 1 }) ho hd (by simp) ?b4)
  case b4 =>
  have put : Back (s.heap.update it (Obj.mapFields (·.setIfInBounds 1 (rawInt ((i : Int) - 1))))) it x t ((i : Int) - 1) :=
    ⟨_, Heap.get?_update_self _ ho (Obj.isFreed_of_fields (Obj.data_mapFields hd _)), (Obj.cls_mapFields ..).trans hc, by rw [Obj.data_mapFields hd]; simp⟩
  first
    | exact wpAny_pure ⟨_, rfl, wpAny_pure (then_ _ put (Heap.SameBut.update ..))⟩
    | exact wpAny_bind (wpAny_pure (wpAny_pure ⟨_, rfl, wpAny_pure (then_ _ put (Heap.SameBut.update ..))⟩))
theorem back_end {it : Addr} {Q : Option Value → Shared → Prop} (calm : A.handled = none) (hit : Back s.heap it x t (-1)) (then_ : ∀ h', Heap.ExtBut it s.heap h' → Q none { s with heap := h' }) : wpAny (model prog w) A (pyNext (.ref it)) Q E s := by
  obtain ⟨o, ho, hc, hd⟩ := id hit
  unfold pyNext
  refine wpAny_bind (wpAny_attempt (wpAny_callSpecial?_slot (name := Str.ofString "__next__") hit.ty RT.slot_rt_next (wpAny_call_entry RT.slot_rt_next hit.ty RT.entry_rt_next ?_ (RT.args_rt_next _))))
  unfold Builtin.«reversed.__next__»
  refine wpAny_bind (wpAny_of_eq (a := (Value.ref it, [])) rfl ?b1)
  case b1 =>
  try dsimp only
  refine wpAny_bind (wpAny_field ho hd (x := Value.str x t) rfl ?_)
  try dsimp only
  refine wpAny_bind (wpAny_field ho hd (x := rawInt (-1)) rfl ?b2)
  case b2 =>
  show wpAny _ A.in1 (if (-1 : Int) < 0 then _ else _) _ _ s
  rw [if_pos (by decide)]
  try dsimp only
  refine wpAny_bind (wpAny_rule ?_)
  refine wpAny_bind ?_
  wp_delta
  refine wpAny_bind (wpAny_setField ho hd (by simp) ?b8)
  case b8 =>
  have once := Heap.get?_update_self (Obj.mapFields (·.setIfInBounds 1 (rawInt (-1)))) ho (Obj.isFreed_of_fields (Obj.data_mapFields hd _))
  refine wpAny_setField (s := { s with heap := s.heap.update it (Obj.mapFields (·.setIfInBounds 1 (rawInt (-1)))) }) once (Obj.data_mapFields hd _) (by simp) ?b5
  case b5 =>
  try dsimp only
  first
    | (show wpAny _ _ (newExc (.type "StopIteration") [] >>= _) _ _ _)
    | (refine wpAny_bind ?_
       show wpAny _ _ (newExc (.type "StopIteration") [] >>= _) _ _ _)
    | (refine wpAny_bind ?_
       wp_delta
       show wpAny _ _ (newExc (.type "StopIteration") [] >>= _) _ _ _)
  refine wpAny_bind ?_
  simp only [newExc, newTuple]
  refine wpAny_bind (wpAny_newObj_type ?b9 (by size_fits))
  case b9 =>
  refine wpAny_bind (m := firstArgMember _ _) (wpAny_of_eq (a := Value.none) (by first | rfl | (simp only [firstArgMember]; rfl)) ?b6)
  case b6 =>
  refine wpAny_newObj_type ?_ (by size_fits)
  simp only [raiseNew]
  refine wpAny_bind (wpAny_handled ?_)
  first | rw [show A.in1.handled = none from calm] | rw [calm]
  refine wpAny_bind (wpAny_pure (wpAny_throw ?b10))
  case b10 =>
  refine wpAny_bind (wpAny_isInstance (T := "StopIteration") (b := true) ⟨_, Heap.get?_push_size _ rfl, rfl⟩ isSubtype_stop ?b7)
  case b7 =>
  refine wpAny_pure (then_ _ ?_)
  have kept : Heap.ExtBut it s.heap ((s.heap.update it (Obj.mapFields (·.setIfInBounds 1 (rawInt (-1))))).update it (Obj.mapFields (·.setIfInBounds 0 Value.none))) :=
    fun b ob hb e => (Heap.get?_update_other _ _ (Ne.symm hb)).trans ((Heap.get?_update_other _ _ (Ne.symm hb)).trans e)
  exact (kept.push _).push _
theorem iter_back {it : Addr} {i : Int} {Q : Value → Shared → Prop} (hit : Back s.heap it x t i) (then_ : Q (.ref it) s) : wpAny (model prog w) A (pyIter (.ref it)) Q E s := by
  refine wpAny_pyIter_slot hit.ty RT.slot_rt_iter (wpAny_call_entry RT.slot_rt_iter hit.ty RT.entry_rt_iter ?_ (RT.args_rt_iter _))
  show wpAny _ _ (ret (.ref it)) _ _ s
  exact wpAny_pure ⟨_, rfl, "reversed", _, hit.ty, RT.slot_rt_next.lookup, then_⟩
end
/-- the letters of x from its end -/
def Itb (x : Str) : It := ⟨fun i _ => i < x.length, fun i H v H' => H' = H ∧ ∃ c, x.cps[x.length - 1 - i]? = some c ∧ v = .str ⟨#[c]⟩, fun i _ => x.length ≤ i⟩
theorem turn_back {P : Program} {w : World} {K : PySem.W.Frag} {tg : Expr} (it : Addr) (x : Str) (t : Tok) (short : x.length ≤ sizeLine) : Turn P w K tg (Itb x) [it] it (fun i h => i ≤ x.length ∧ Back h it x t ((x.length : Int) - 1 - (i : Nat))) where
  mem := by simp
  obj := fun i h st b hb => by
    obtain rfl : b = it := by simpa using hb
    obtain ⟨_, o, e, c, d⟩ := st
    refine ⟨o, e, fun v z => ?_⟩
    rw [d] at z
    cases z
  keep := fun i h h' st kept => ⟨st.1, st.2.at fun o e => kept it (by simp) o e⟩
  item := by
    intro Y hP hw hK hc i pins s σ H E I hf st hg
    subst hP hw hK
    have lt : i < x.length := hg
    obtain ⟨f0, f1, -, f3, f4, f5⟩ := hf it (by simp)
    obtain ⟨_, hit⟩ := st
    have back : (x.length : Int) - 1 - ((i : Nat) : Int) = ((x.length - 1 - i : Nat) : Int) := by omega
    rw [back] at hit
    have there : x.length - 1 - i < x.cps.size := by show x.length - 1 - i < x.length; omega
    refine back_item hit short (by omega) (Array.getElem?_eq_getElem there) fun h' st' sb => ?_
    have next : ((x.length - 1 - i : Nat) : Int) - 1 = (x.length : Int) - 1 - ((i + 1 : Nat) : Int) := by omega
    rw [next] at st'
    have I1 : Inv Y pins σ H { s with heap := h', toks := s.toks + 1 + 1 } := I.turned (t' := s.toks + 1 + 1) (fun b o hb e => (sb.2 b hb).trans e) f0 f1 f3 f4 f5
    obtain ⟨o, e, c, d⟩ := id st'
    exact ⟨_, rfl, go_of (s := { s with heap := h', toks := s.toks + 1 + 1 }) e c d (by decide) ⟨.str ⟨#[x.cps[x.length - 1 - i]]⟩, H, I1, ⟨_, rfl⟩, ⟨rfl, _, Array.getElem?_eq_getElem there, rfl⟩, ⟨lt, st'⟩, fun b hb => (hf b hb).1⟩⟩
  done := by
    intro Y hP hw hK hc i pins s σ H E I hf st hg
    subst hP hw hK
    obtain ⟨f0, f1, -, f3, f4, f5⟩ := hf it (by simp)
    obtain ⟨le, hit⟩ := st
    have ge : x.length ≤ i := hg
    have stop : (x.length : Int) - 1 - ((i : Nat) : Int) = -1 := by omega
    rw [stop] at hit
    exact back_end (I.ok.hd hc) hit fun h' eb => ⟨rfl, I.turned (t' := s.toks) (fun b o hb e => eb b o hb e) f0 f1 f3 f4 f5⟩
  self := fun A i s Q E st h => iter_back st.2 h
def iBack (ta : TA) : TI := fun σ H R => ta σ H fun vs H1 => ∃ x : Str, vs = [.str x] ∧ x.length ≤ sizeLine ∧ R (Itb x) H1
theorem pi_back {X : Cx} {tg e : Expr} {ta : TA} {p pos : Pos} (hg : Gl X "reversed") (hm : X.mg "reversed" = none) (ha : PA X [e] ta) (hs : starEach [e] X.env = [(false, eval e X.env)] := by rfl) : PI X tg (.Call (.Name "reversed" p) [e] [] pos) (iBack ta) := by
  refine ⟨fun pins s σ H R I told => ?_⟩
  refine Call_ (ld_blt I hg hm PyProof.Rows.boot_reversed (PyProof.Rows.callWith_type1 (thn (ha.run pos pins s σ H _ I told) ?_) hs rfl))
  rintro us s1 ⟨vs, H1, I1, rel, x, rfl, short, q⟩
  obtain ⟨u, rfl, t, rfl⟩ := vals1 rel
  have e0 : (x.length : Int) - 1 = (x.length : Int) - 1 - ((0 : Nat) : Int) := by omega
  refine call_back short (iter_back (x := x) (t := t) (i := (x.length : Int) - 1) ⟨_, Heap.get?_push_size _ rfl, rfl, rfl⟩ ?_)
  refine pi_one (tk := s1.toks + 1 + 1) I1 _ (turn_back _ x t short) ⟨Nat.zero_le _, ?_⟩ q
  rw [← e0]
  have laid := Heap.get?_push_size (h := s1.heap) (o := backO x t ((x.length : Int) - 1)) rfl
  exact ⟨_, laid, rfl, rfl⟩
end RS

set_option Elab.async false
set_option linter.all false
set_option maxRecDepth 100000
/-! letters: "abcd"[i] and "abcd".index(x) -/
namespace LX
open PySem PySem.Spec PyProof.Rows L2
abbrev abcd : Str := "abcd"
def ltr (i : Nat) : Str := ⟨#[97 + i]⟩
theorem abcd_at {i : Nat} (h : i < 4) : atI abcd.cps.toList (i : Int) = some (97 + i) := by
  have all : ∀ i : Nat, i < 4 → atI abcd.cps.toList (i : Int) = some (97 + i) := by decide +kernel
  exact all i h
theorem abcd_len : abcd.length ≤ sizeLine := by
  have e : abcd.length = 4 := by decide +kernel
  rw [e]
  decide
theorem found {i : Nat} (h : i < 4) : ∃ rest, Builtin.Str.occurrences abcd (ltr i) 0 abcd.length 1 = i :: rest := by
  have all : ∀ i, i < 4 → Builtin.Str.occurrences abcd (ltr i) 0 abcd.length 1 = [i] := by decide +kernel
  exact ⟨[], all i h⟩
def rLetter : V → List V → Hp → VK → Prop := fun x xs H Q => ∃ i : Nat, i < 4 ∧ x = .str abcd ∧ xs = [.str (ltr i)] ∧ Q (.int (i : Nat)) H
theorem mt_letter {X : Cx} : MtR X "str.index" rLetter := by
  intro pins s σ H x xs v us Q I rx rel told
  obtain ⟨i, lt, rfl, rfl, q⟩ := told
  obtain ⟨t, rfl⟩ := rx
  obtain ⟨_, rfl, u, rfl⟩ := vals1 rel
  obtain ⟨rest, at_i⟩ := found lt
  exact PySem.SC.index at_i ⟨.int (i : Nat), H, I.tok _, ⟨_, rfl⟩, q⟩
theorem ltr_inj {i j : Nat} : ltr i = ltr j ↔ i = j := by
  unfold ltr
  constructor
  · intro h
    injection h with h
    have := congrArg (fun (a : Array Nat) => a[0]?) h
    simp at this
    exact this
  · intro h
    rw [h]
end LX
namespace LX
open PySem
/-- the word with the letters w (0 for a) -/
def wd (w : List Nat) : Str := ⟨(w.map (97 + ·)).toArray⟩
theorem wd_len {w : List Nat} : (wd w).length = w.length := by
  unfold wd Str.length
  simp
theorem wd_cps {w : List Nat} : (wd w).cps.toList = w.map (97 + ·) := rfl
theorem wd_at {w : List Nat} {i : Nat} : (wd w).cps[i]? = w[i]?.map (97 + ·) := by
  unfold wd
  simp
theorem wd_append {u v : List Nat} : wd u ++ wd v = wd (u ++ v) := by
  show Str.append (wd u) (wd v) = _
  unfold Str.append wd
  simp
theorem wd_nil : wd [] = Str.empty := rfl
theorem wd_one {i : Nat} : wd [i] = ltr i := rfl
theorem wd_inj : ∀ {u v : List Nat}, wd u = wd v → u = v := by
  intro u v h
  have e : u.map (97 + ·) = v.map (97 + ·) := congrArg (fun s : Str => s.cps.toList) h
  have go : ∀ (u v : List Nat), u.map (97 + ·) = v.map (97 + ·) → u = v := by
    intro u
    induction u with
    | nil =>
      intro v h
      cases v with
      | nil => rfl
      | cons y v => cases h
    | cons x u ih =>
      intro v h
      cases v with
      | nil => cases h
      | cons y v =>
        rw [List.map_cons, List.map_cons] at h
        injection h with h1 h2
        rw [ih v h2, Nat.add_left_cancel h1]
  exact go u v e
theorem strjoin_wd : ∀ {w : List Nat}, Str.join Str.empty (w.map ltr) = wd w
  | [] => rfl
  | [x] => rfl
  | x :: y :: w => by
    show ltr x ++ Str.empty ++ Str.join Str.empty ((y :: w).map ltr) = _
    rw [strjoin_wd (w := y :: w)]
    show Str.append (Str.append (ltr x) Str.empty) (wd (y :: w)) = wd (x :: y :: w)
    unfold Str.append wd ltr Str.empty
    simp
theorem join_wd {w : List Nat} : Txt.join (Str.ofString "") (w.map ltr) = wd w := by
  have e : Str.ofString "" = Str.empty := by decide +kernel
  show Builtin.Str.glued (Str.ofString "") (w.map ltr) = _
  rw [StrLaws.glued_eq_join, e]
  exact strjoin_wd
end LX

set_option Elab.async false
set_option linter.all false
set_option maxRecDepth 100000
set_option maxHeartbeats 1000000
/-! x[::-1] of a string -/
namespace LX
open PySem PySem.Spec PyProof.Rows L2
theorem picks_back (z : Str) : ((Builtin.Str.strSliceIndices none none (-1) z.length).filterMap (z.cps[·]?)).toArray = z.cps.toList.reverse.toArray := by
  show ((sliceRange ((z.cps.size : Int) - 1) (-1) (-1)).filterMap (z.cps[·]?)).toArray = _
  rw [PySem.W.krv_sliceRange, PySem.W.krv_range, List.filterMap_reverse, PySem.W.krv_all]
def tBackS (te : TE) : TE := fun σ H Q => te σ H fun x H1 => ∃ z : Str, x = .str z ∧ z.length ≤ sizeLine ∧ Q (.str ⟨z.cps.toList.reverse.toArray⟩) H1
theorem pe_backS {X : Cx} {e : Expr} {te : TE} {k : Nat} {p1 p2 p3 pos : Pos} (he : PE X e te) : PE X (.Subscript e (.Slice none none (some (.UnaryOp .USub (.Constant (.int 1) k p1) p2)) p3) pos) (tBackS te) := by
  have step : PO X (some (.UnaryOp .USub (.Constant (.int 1) k p1) p2)) (tPart (tUn (rU fun i => .int (-i)) (tC (.int 1)))) := po_some (pe_un un_neg pe_int)
  constructor
  intro pins s σ H Q I told
  refine Subscript_ (thn (he.run pins s σ H _ I told) ?_)
  rintro v s1 ⟨x, H1, I1, rx, z, rfl, short, q⟩
  obtain ⟨t, rfl⟩ := rx
  refine wpAny_Slice (thn (po_none.run pins s1 σ H1 (fun o H2 => o = none ∧ H2 = H1) I1 ⟨rfl, rfl⟩) ?_)
  rintro vl s2 ⟨l, H2, I2, pl, rfl, rfl⟩
  refine thn (po_none.run pins s2 σ H2 (fun o H3 => o = none ∧ H3 = H2) I2 ⟨rfl, rfl⟩) ?_
  rintro vu s3 ⟨u, H3, I3, pu, rfl, rfl⟩
  refine thn (step.run pins s3 σ H3 (fun o H4 => o = some (-1) ∧ H4 = H3) I3 ⟨1, rfl, -1, rfl, rfl, rfl⟩) ?_
  rintro vs s4 ⟨o, H4, I4, ps, rfl, rfl⟩
  obtain ⟨a, rfl, ea⟩ := IsPart.raw pl
  obtain ⟨b, rfl, eb⟩ := IsPart.raw pu
  obtain ⟨c, rfl, ec⟩ := IsPart.raw ps
  have I5 : Inv X pins σ H4 { s4 with heap := s4.heap.push { cls := .type "slice", data := .fields #[partValue a, partValue b, partValue c] } } := I4.kept (t' := s4.toks) fun _ _ y => Heap.get?_push_of_some _ y
  show wpAny (model X.prog X.w) X.A (subscriptTail e (.Slice none none (some (.UnaryOp .USub (.Constant (.int 1) k p1) p2)) p3) (.str z t) (.ref s4.heap.objs.size)) (EP X pins σ Q) X.xe { s4 with heap := s4.heap.push { cls := .type "slice", data := .fields #[partValue a, partValue b, partValue c] } }
  refine tail_any (ops := [.ref s4.heap.objs.size, .str z t]) (typeIs_str _ z t) F.slot_str_getitem.lookup ?_ (by with_unfolding_all rfl)
  refine wpAny_getItem_str_slice (l := a) (u := b) (st := c) (Heap.IsSliceOf.new _ _ _ _) (by rw [ec]; rfl) ?_
  unfold sliceMade slicePicked
  rw [ea, eb, ec]
  show Made.post (if ((-1 : Int) == 1 && (Builtin.Str.strSliceIndices none none (-1) z.length).length == z.length) = true then Made.val (.str z t) else Made.str ⟨((Builtin.Str.strSliceIndices none none (-1) z.length).filterMap (z.cps[·]?)).toArray⟩) (EP X pins σ Q) _
  have no : ((-1 : Int) == 1 && (Builtin.Str.strSliceIndices none none (-1) z.length).length == z.length) = false := by
    rw [show ((-1 : Int) == 1) = false from rfl]
    rfl
  rw [no, picks_back]
  refine ⟨?_, .str _, H4, I5.tok _, ⟨_, rfl⟩, q⟩
  show z.cps.toList.reverse.toArray.size ≤ sizeLine
  rw [List.size_toArray, List.length_reverse, Array.length_toList]
  exact short
theorem back_wd {w : List Nat} : (⟨(wd w).cps.toList.reverse.toArray⟩ : Str) = wd w.reverse := by
  unfold wd
  simp
end LX

/-! words over the first k letters, in plain Lean: the word at a place, lists of all words of a length, the order -/
namespace WD
/-- the word of l letters at the place t among k ^ l, ascending -/
def dig (k : Nat) : Nat → Nat → List Nat
  | 0, _ => []
  | l + 1, t => dig k l (t / k) ++ [97 + t % k]
theorem dig_len {k : Nat} : ∀ {l t : Nat}, (dig k l t).length = l
  | 0, _ => rfl
  | l + 1, t => by
    show (dig k l (t / k) ++ [97 + t % k]).length = l + 1
    rw [List.length_append, dig_len]
    rfl
theorem dig_mem {k : Nat} (hk : 0 < k) : ∀ {l t x : Nat}, x ∈ dig k l t → 97 ≤ x ∧ x < 97 + k
  | 0, _, _, h => absurd h List.not_mem_nil
  | l + 1, t, x, h => by
    rcases List.mem_append.mp h with h | h
    · exact dig_mem hk h
    · rw [List.mem_singleton.mp h]
      have := Nat.mod_lt t hk
      omega
theorem dig_step {k l t x : Nat} (hx : x < k) : dig k (l + 1) (t * k + x) = dig k l t ++ [97 + x] := by
  show dig k l ((t * k + x) / k) ++ [97 + (t * k + x) % k] = _
  rw [Nat.mul_comm, Nat.mul_add_div (by omega), Nat.div_eq_of_lt hx, Nat.add_zero, Nat.mul_add_mod, Nat.mod_eq_of_lt hx]
theorem dig_head {k : Nat} (hk : 0 < k) : ∀ {l x t : Nat}, x < k → t < k ^ l → dig k (l + 1) (x * k ^ l + t) = (97 + x) :: dig k l t
  | 0, x, t, hx, ht => by
    have : t = 0 := by rw [Nat.pow_zero] at ht; omega
    subst this
    show [] ++ [97 + (x * k ^ 0 + 0) % k] = _
    rw [Nat.pow_zero, Nat.mul_one, Nat.add_zero, Nat.mod_eq_of_lt hx]
    rfl
  | l + 1, x, t, hx, ht => by
    show dig k (l + 1) ((x * k ^ (l + 1) + t) / k) ++ [97 + (x * k ^ (l + 1) + t) % k] = (97 + x) :: (dig k l (t / k) ++ [97 + t % k])
    have e : x * k ^ (l + 1) + t = k * (x * k ^ l) + t := by rw [Nat.pow_succ]; ac_rfl
    have lt : t / k < k ^ l := Nat.div_lt_of_lt_mul (by rw [Nat.mul_comm]; exact ht)
    rw [e, Nat.mul_add_div hk, Nat.mul_add_mod, dig_head hk (l := l) hx lt]
    rfl
/-- a count of a times k by two indices -/
theorem range_mul {k : Nat} : ∀ {a : Nat}, List.range (a * k) = (List.range a).flatMap fun t => (List.range k).map fun x => t * k + x
  | 0 => by rw [Nat.zero_mul]; rfl
  | a + 1 => by
    rw [Nat.succ_mul, List.range_add, range_mul (a := a), List.range_succ, List.flatMap_append]
    congr 1
    rw [List.flatMap_cons, List.flatMap_nil, List.append_nil]
def all (k l : Nat) : List (List Nat) := (List.range (k ^ l)).map (dig k l)
theorem all_len {k l : Nat} : (all k l).length = k ^ l := by
  unfold all
  rw [List.length_map, List.length_range]
theorem all_at {k l t : Nat} (h : t < k ^ l) : (all k l)[t]? = some (dig k l t) := by
  unfold all
  rw [List.getElem?_map, List.getElem?_range h]
  rfl
theorem all_zero {k : Nat} : all k 0 = [[]] := rfl
/-- a letter behind each word -/
theorem all_behind {k l : Nat} : all k (l + 1) = (all k l).flatMap fun w => (List.range k).map fun x => w ++ [97 + x] := by
  unfold all
  rw [Nat.pow_succ, range_mul, List.map_flatMap, List.flatMap_map]
  congr 1
  funext t
  rw [List.map_map]
  refine List.map_congr_left fun x hx => ?_
  exact dig_step (List.mem_range.mp hx)
/-- a letter ahead of each word -/
theorem all_ahead {k l : Nat} (hk : 0 < k) : all k (l + 1) = (List.range k).flatMap fun x => (all k l).map fun w => (97 + x) :: w := by
  unfold all
  rw [Nat.pow_succ, Nat.mul_comm, range_mul, List.map_flatMap]
  have e : ∀ x, x ∈ List.range k → List.map (dig k (l + 1)) (List.map (fun t => x * k ^ l + t) (List.range (k ^ l))) = List.map (fun w => (97 + x) :: w) (List.map (dig k l) (List.range (k ^ l))) := fun x hx => by
    rw [List.map_map, List.map_map]
    exact List.map_congr_left fun t ht => dig_head hk (List.mem_range.mp hx) (List.mem_range.mp ht)
  have go : ∀ (xs : List Nat), (∀ x, x ∈ xs → x ∈ List.range k) → (xs.flatMap fun x => List.map (dig k (l + 1)) (List.map (fun t => x * k ^ l + t) (List.range (k ^ l)))) = xs.flatMap fun x => List.map (fun w => (97 + x) :: w) (List.map (dig k l) (List.range (k ^ l))) := by
    intro xs
    induction xs with
    | nil => intro _; rfl
    | cons x xs ih =>
      intro h
      rw [List.flatMap_cons, List.flatMap_cons, e x (h x List.mem_cons_self), ih fun y hy => h y (List.mem_cons_of_mem _ hy)]
  exact go _ fun _ h => h
/-! ### the order -/
theorem lt_append : ∀ {u v a b : List Nat}, u.length = v.length → u < v → u ++ a < v ++ b
  | [], [], _, _, _, h => absurd h (by decide)
  | [], _ :: _, _, _, e, _ => by cases e
  | _ :: _, [], _, _, e, _ => by cases e
  | x :: u, y :: v, a, b, e, h => by
    show x :: (u ++ a) < y :: (v ++ b)
    rw [List.cons_lt_cons_iff] at h ⊢
    rcases h with h | ⟨h1, h2⟩
    · exact .inl h
    · exact .inr ⟨h1, lt_append (Nat.succ.inj e) h2⟩
theorem append_lt : ∀ {w a b : List Nat}, a < b → w ++ a < w ++ b
  | [], _, _, h => h
  | x :: w, a, b, h => by
    show x :: (w ++ a) < x :: (w ++ b)
    rw [List.cons_lt_cons_iff]
    exact .inr ⟨rfl, append_lt h⟩
/-- earlier places, earlier words -/
theorem dig_lt {k : Nat} (hk : 0 < k) : ∀ {l s t : Nat}, s < t → t < k ^ l → dig k l s < dig k l t
  | 0, s, t, h, ht => by
    rw [Nat.pow_zero] at ht
    omega
  | l + 1, s, t, h, ht => by
    show dig k l (s / k) ++ [97 + s % k] < dig k l (t / k) ++ [97 + t % k]
    have le : s / k ≤ t / k := Nat.div_le_div_right (Nat.le_of_lt h)
    have lt : t / k < k ^ l := Nat.div_lt_of_lt_mul (by rw [Nat.mul_comm]; exact ht)
    rcases Nat.lt_or_eq_of_le le with q | q
    · exact lt_append (by rw [dig_len, dig_len]) (dig_lt hk q lt)
    · rw [q]
      refine append_lt ?_
      have e1 := Nat.div_add_mod s k
      have e2 := Nat.div_add_mod t k
      rw [q] at e1
      rw [List.cons_lt_cons_iff]
      exact .inl (by omega)
theorem lt_irrefl (u : List Nat) : ¬ u < u := List.lt_irrefl u
/-- the first place at which two words of one length differ tells -/
theorem lt_at : ∀ {u v : List Nat} {i x y : Nat}, u.length = v.length → (∀ j, j < i → u[j]? = v[j]?) → u[i]? = some x → v[i]? = some y → x ≠ y → (u < v ↔ x < y)
  | [], _, i, x, y, _, _, h, _, _ => by rw [List.getElem?_nil] at h; cases h
  | _ :: _, [], _, _, _, e, _, _, _, _ => by cases e
  | a :: u, b :: v, 0, x, y, e, _, h1, h2, ne => by
    cases h1
    cases h2
    rw [List.cons_lt_cons_iff]
    constructor
    · rintro (h | ⟨h, _⟩)
      · exact h
      · exact absurd h ne
    · exact fun h => .inl h
  | a :: u, b :: v, i + 1, x, y, e, s, h1, h2, ne => by
    have ab : a = b := by
      have := s 0 (Nat.succ_pos i)
      exact Option.some.inj this
    subst ab
    have ih := lt_at (u := u) (v := v) (i := i) (Nat.succ.inj e) (fun j hj => s (j + 1) (Nat.succ_lt_succ hj)) h1 h2 ne
    rw [List.cons_lt_cons_iff]
    constructor
    · rintro (h | ⟨_, h⟩)
      · exact absurd h (Nat.lt_irrefl _)
      · exact ih.mp h
    · exact fun h => .inr ⟨rfl, ih.mpr h⟩
end WD

set_option Elab.async false
set_option maxRecDepth 100000
namespace RX
open PySem L2
def topS (i : Nat) : Stmt := PySem.Challenge.pw_wordworth_k10_words.main.body.getD i (.Pass ⟨0, 0, 0, 0⟩)
theorem Same.upd {H : Hp} {p : Addr} {o : HO} (h : H p = none) : Same H (upd H p o) := fun b x e => by
  rw [upd_ne (ne_of_none e h)]
  exact e
end RX

set_option Elab.async false
set_option maxRecDepth 100000
namespace RX
open PySem L2
/-! ### the draws -/
abbrev sFeed : Stmt := topS 6
abbrev sDraw : Stmt := topS 7
/-- the feed stands at a: its cells, the next place, what is left of a great cell, the seed -/
structure FeedIs (H : Hp) (a cl : Addr) (cs : List Int) (i p s : Int) : Prop where
  hA : H a = some (.lst [.ref cl, .int i, .int p, .int s])
  hC : H cl = some (.lst (cs.map V.int))
  ne : cl ≠ a
  i0 : 0 ≤ i
  p0 : 0 ≤ p
  s0 : 0 ≤ s
  s1 : s < 2147483648
  len : cs.length ≤ 63
  nn : ∀ c ∈ cs, 0 ≤ c
def FeedAt (H : Hp) (a cl : Addr) : Prop := ∃ cs i p s, FeedIs H a cl cs i p s
/-- all but what stands at a is as it was -/
def But (a : Addr) (H H' : Hp) : Prop := ∀ b o, H b = some o → b ≠ a → H' b = some o
theorem But.refl (a : Addr) (H : Hp) : But a H H := fun _ _ h _ => h
theorem But.trans {a : Addr} {H H1 H2 : Hp} (x : But a H H1) (y : But a H1 H2) : But a H H2 := fun b o h n => y b o (x b o h n) n
theorem Same.but {a : Addr} {H H1 : Hp} (x : Same H H1) : But a H H1 := fun b o h _ => x b o h
theorem But.upd (a : Addr) (H : Hp) (o : HO) : But a H (L2.upd H a o) := fun b o' h n => by rw [upd_ne n]; exact h
theorem FeedIs.same {H H' : Hp} {a cl : Addr} {cs : List Int} {i p s : Int} (h : FeedIs H a cl cs i p s) (x : Same H H') : FeedIs H' a cl cs i p s :=
  ⟨x _ _ h.hA, x _ _ h.hC, h.ne, h.i0, h.p0, h.s0, h.s1, h.len, h.nn⟩
theorem FeedAt.same {H H' : Hp} {a cl : Addr} (h : FeedAt H a cl) (x : Same H H') : FeedAt H' a cl := let ⟨cs, i, p, s, f⟩ := h; ⟨cs, i, p, s, f.same x⟩
/-- the feed's list written anew -/
theorem FeedIs.put {H : Hp} {a cl : Addr} {cs : List Int} {i p s i' p' s' : Int} (h : FeedIs H a cl cs i p s) (i0 : 0 ≤ i') (p0 : 0 ≤ p') (s0 : 0 ≤ s') (s1 : s' < 2147483648) :
    FeedIs (upd H a (.lst [.ref cl, .int i', .int p', .int s'])) a cl cs i' p' s' :=
  ⟨upd_same, by rw [upd_ne h.ne]; exact h.hC, h.ne, i0, p0, s0, s1, h.len, h.nn⟩
def spFeed (K : PySem.W.Frag) : Sp := fun vs H Q _ => ∃ (a : Addr) (ns : List Int), vs = [.ref a] ∧ SqL K H a (ns.map V.int) ∧ ns.length ≤ 63 ∧ ∀ (r cl : Addr) (H' : Hp), Same H H' → H r = none → H cl = none → FeedAt H' r cl → Q (.ref r) H'
def spDraw : Sp := fun vs H Q _ => ∃ (a cl : Addr) (m : Int), vs = [.ref a, .int m] ∧ FeedAt H a cl ∧ 0 < m ∧ m < 1073741824 ∧ ∀ (r : Int) (H' : Hp), 0 ≤ r → r < m → FeedAt H' a cl → But a H H' → Q (.int r) H'
def spGreat : Sp := fun vs H Q _ => ∃ (a cl : Addr) (m : Int), vs = [.ref a, .int m] ∧ FeedAt H a cl ∧ 0 ≤ m ∧ m ≤ 100 ∧ ∀ (r : Int) (H' : Hp), 0 ≤ r → r < 100000 ^ m.toNat → FeedAt H' a cl → But a H H' → Q (.int r) H'
structure TxtL (mg : Str → Option Value) : Prop where
  abs : mg "abs" = none
  len : mg "len" = none
  int : mg "int" = none
  max : mg "max" = none
  range : mg "range" = none
  isi : mg "isinstance" = none
  bool : mg "bool" = none
section
variable {P : Program} {w : World} {K : PySem.W.Frag} {mg : Str → Option Value} {base : Heap}
theorem scFe : FnScope ["script", "cell"] ["script"] (defScope sFeed) := ⟨rfl, rfl, rfl, by decide +kernel, rfl, by decide +kernel, by decide +kernel⟩
theorem cut63 (xs : List V) (h : xs.length ≤ 63) : cutV xs none (some 63) = xs := by
  unfold cutV
  rw [show HT.sIx xs.length xs.length (some 63) = min 63 xs.length from HT.sIx_nat xs.length xs.length 63, HT.sIx_none, Nat.min_eq_right h, List.drop_zero, Nat.sub_zero]
  exact List.take_length
theorem ok_feed {f : Addr} {fd : FuncData} (F : Fun K "_law_feed" "_law_feed" sFeed f fd) (T : TxtL mg) : FnOk P w K mg base CX0 1 f fd ["script"] (spFeed K) := by
  refine F.ok scFe (fun vs H Q E h => ?_) (fun cdv A outer s H vs Q E hr h => ?_)
  · obtain ⟨a, ns, rfl, _⟩ := h
    rfl
  · obtain ⟨a, ns, rfl, hS, hl, k⟩ := h
    refine ⟨_, pss_one (ps_ret (pe_lst (pa_cons (pe_lc (own := [("cell", 1)]) (g := gName 1) (tt := tYes) rfl scFe.nd (pi_list (pe_slice sl_list (pv 0) po_none (po_some pe_int))) (blkOk_by (N := ["script", "cell"]) (sc := defScope sFeed) (by decide +kernel))
        (fun _ _ _ _ _ => pg_name (i := 1) scFe.nd rfl (Or.inl rfl)) (fun _ _ _ _ _ => pts_nil) (fun _ _ _ _ _ => pe_callB call_abs (by rfl) T.abs (by decide +kernel) (pa_cons (pv 1) pa_nil)))
      (pa_cons pe_int (pa_cons pe_int (pa_cons (pe_op op_add pe_int (pe_callB call_len_seq (by rfl) T.len PySem.boot_len (pa_cons (pv 0) pa_nil))) pa_nil)))))), ?_⟩
    refine ⟨.ref a, rfl, 63, rfl, a, ns.map V.int, rfl, hS, fun c nc => ?_⟩
    rw [cut63 _ (by rw [List.length_map]; exact hl)]
    have s1 : Same H (upd H c (.lst (ns.map V.int))) := Same.upd nc
    refine ⟨c, rfl, ⟨_, SqL.of upd_same⟩, fun D nD => ?_⟩
    have ncD : c ≠ D := ne_of_none upd_same nD
    have nD0 : H D = none := s1.free nD
    refine lc_list (K := K) (a := c) (xs := ns.map V.int) (fun i H2 => Same H H2 ∧ H2 c = some (.lst (ns.map V.int)) ∧ H2 D = some (.lst (((ns.take i).map fun z => if z < 0 then -z else z).map V.int))) ⟨s1.trans (Same.upd nD), by rw [upd_ne ncD]; exact upd_same, upd_same⟩ (fun i H2 _ h => SqL.of h.2.1) ?_ ?_
    · rintro i x H2 hi ⟨s2, hq, hD⟩
      obtain ⟨z, hz, rfl⟩ : ∃ z, ns[i]? = some z ∧ V.int z = x := by
        rw [List.getElem?_map] at hi
        cases e : ns[i]? with
        | none => rw [e] at hi; cases hi
        | some z => rw [e] at hi; exact ⟨z, rfl, Option.some.inj hi⟩
      have hi63 : i < ns.length := (List.getElem?_eq_some_iff.mp hz).1
      refine ⟨rfl, ?_⟩
      refine ⟨_, rfl, z, rfl, _, hD, ?_, ?_⟩
      · rw [List.length_map, List.length_map, List.length_take]
        exact Nat.lt_of_le_of_lt (Nat.min_le_left _ _) (small1000 (by omega))
      · refine ⟨fun b o e => ?_, by rw [upd_ne ncD]; exact hq, ?_⟩
        · rw [upd_ne (ne_of_none e nD0)]
          exact s2 _ _ e
        · rw [upd_same, List.take_add_one, hz, List.map_append, List.map_append]
          rfl
    · rintro H2 ⟨s2, hq, hD⟩
      rw [List.length_map, List.take_length] at hD
      refine ⟨_, rfl, a, _, rfl, .inl (s2.seq hS), _, _, rfl, rfl, (by show 4 ≤ sizeLine; decide), fun r nr => ?_⟩
      have nDr : D ≠ r := ne_of_none hD nr
      refine k r D _ (s2.trans (Same.upd nr)) (s2.free nr) nD0 ⟨ns.map fun z => if z < 0 then -z else z, 0, 0, _, upd_same, by rw [upd_ne nDr]; exact hD, nDr, by omega, by omega, ?_, ?_, ?_, ?_⟩
      · rw [List.length_map]; omega
      · rw [List.length_map]; omega
      · rw [List.length_map]; exact hl
      · intro c hc
        obtain ⟨z, _, rfl⟩ := List.mem_map.mp hc
        show (0 : Int) ≤ if z < 0 then -z else z
        split <;> omega
theorem scDr : FnScope ["feed", "limit", "cells", "cell", "found"] ["feed", "limit"] (defScope sDraw) := ⟨rfl, rfl, rfl, by decide +kernel, rfl, by decide +kernel, by decide +kernel⟩
theorem ok_draw {f : Addr} {fd : FuncData} (F : Fun K "_law_draw" "_law_draw" sDraw f fd) (T : TxtL mg) : FnOk P w K mg base CX0 1 f fd ["feed", "limit"] spDraw := by
  refine F.ok scDr (fun vs H Q E h => ?_) (fun cdv A outer s H vs Q E hr h => ?_)
  · obtain ⟨a, cl, m, rfl, _⟩ := h
    rfl
  · obtain ⟨a, cl, m, rfl, ⟨cs, i, p, s, f0⟩, hm, hm2, k⟩ := h
    refine ⟨_, pss_cons (ps_set (i := 2) scDr.nd rfl (.inl rfl) (pe_ix ix_list (pv 0) pe_int (fun _ _ => rfl)))
      (C8.pss_cut (ps_if (PW.pt (pw_and (pt_cmpR op_eq (pe_ix ix_list (pv 0) pe_int (fun _ _ => rfl)) pe_int (nomark _)) (pw_and1 (pt_cmpR op_lt (pe_ix ix_list (pv 0) pe_int (fun _ _ => rfl)) (pe_callB call_len_seq (by rfl) T.len PySem.boot_len (pa_cons (pv 2) pa_nil)) (nomark _)))))
        (pss_cons (ps_set (i := 3) scDr.nd rfl (.inl rfl) (pe_ix ix_list (pv 2) (pe_ix ix_list (pv 0) pe_int (fun _ _ => rfl)) (fun _ _ => rfl)))
        (pss_cons (ps_asg (pe_op op_add (pe_ix ix_list (pv 0) pe_int (fun _ _ => rfl)) pe_int) (pg_sub (pv 0) pe_int set_list))
        (pss_one (ps_if (pt_cmpR op_ge (pv 3) (pe_op op_pow pe_int pe_int) (nomark _))
          (pss_one (ps_asg (pv 3) (pg_sub (pv 0) pe_int set_list)))
          (pss_one (ps_asg (pe_op op_mod (pe_callTy call_int1 (by rfl) T.int (by decide +kernel) (pa_cons (pe_op op_add (pe_op op_add (pe_op op_mul (pe_ix ix_list (pv 0) pe_int (fun _ _ => rfl)) pe_int) (pe_op op_mul (pv 3) pe_int)) pe_int) pa_nil)) pe_int) (pg_sub (pv 0) pe_int set_list)))))))
        pss_nil)
      (C8.pss_cut (ps_if (pt_cmpR op_gt (pe_ix ix_list (pv 0) pe_int (fun _ _ => rfl)) pe_int (nomark _))
        (pss_cons (ps_set (i := 4) scDr.nd rfl (.inl rfl) (pe_op op_mod (pe_callTy call_int1 (by rfl) T.int (by decide +kernel) (pa_cons (pe_ix ix_list (pv 0) pe_int (fun _ _ => rfl)) pa_nil)) (pv 1)))
        (pss_cons (ps_asg (pe_op op_fdiv (pe_ix ix_list (pv 0) pe_int (fun _ _ => rfl)) (pv 1)) (pg_sub (pv 0) pe_int set_list))
        (pss_one (ps_ret (pv 4)))))
        pss_nil)
      (pss_cons (ps_asg (pe_op op_mod (pe_callTy call_int1 (by rfl) T.int (by decide +kernel) (pa_cons (pe_op op_add (pe_op op_mul (pe_ix ix_list (pv 0) pe_int (fun _ _ => rfl)) pe_int) pe_int) pa_nil)) pe_int) (pg_sub (pv 0) pe_int set_list))
      (pss_one (ps_ret (pe_op op_mod (pe_callTy call_int1 (by rfl) T.int (by decide +kernel) (pa_cons (pe_op op_add (pe_op op_fdiv (pe_op op_mul (pe_ix ix_list (pv 0) pe_int (fun _ _ => rfl)) (pe_ix ix_list (pv 0) pe_int (fun _ _ => rfl))) pe_int) (pe_op op_fdiv (pe_ix ix_list (pv 0) pe_int (fun _ _ => rfl)) pe_int)) pa_nil)) (pv 1))))))), ?_⟩
    -- cells = feed[0]
    refine ⟨_, rfl, a, _, 0, _, rfl, rfl, SqL.of f0.hA, rfl, ?_⟩
    -- behind the first if: the feed again
    refine ⟨fun σ' H' => ∃ x2 x3 x4, σ' = [some (.ref a), some (.int m), x2, x3, x4] ∧ FeedAt H' a cl ∧ But a H H', ?_, ?_⟩
    · refine ⟨_, rfl, a, _, 2, _, rfl, rfl, SqL.of f0.hA, rfl, rfl, _, rfl, ?_⟩
      refine ite2 (fun _ => ?_) (fun _ => ?_)
      · refine ⟨_, rfl, a, _, 1, _, rfl, rfl, SqL.of f0.hA, rfl, _, rfl, cl, _, rfl, .inl (SqL.of f0.hC), _, _, rfl, rfl, _, rfl, ?_⟩
        refine ite2 (fun z => ?_) (fun _ => ?_)
        · have z := of_decide_eq_true z
          rw [List.length_map] at z
          have hi : (i.toNat : Int) = i := Int.toNat_of_nonneg f0.i0
          have hlt : i.toNat < cs.length := by omega
          have hc : (cs.map V.int)[i.toNat]? = some (V.int cs[i.toNat]) := by
            rw [List.getElem?_map, List.getElem?_eq_getElem hlt]
            rfl
          have c0 : 0 ≤ cs[i.toNat] := f0.nn _ (List.getElem_mem hlt)
          generalize hcv : cs[i.toNat] = cv at hc c0
          have f1 := f0.put (i' := i + 1) (by have := f0.i0; omega) f0.p0 f0.s0 f0.s1
          refine ⟨_, rfl, _, rfl, a, _, 1, _, rfl, rfl, SqL.of f0.hA, rfl, cl, _, i, _, rfl, rfl, SqL.of f0.hC, at_of hi.symm hc, ?_⟩
          refine ⟨_, rfl, a, _, 1, _, rfl, rfl, SqL.of f0.hA, rfl, _, _, rfl, rfl, _, rfl, a, _, _, 1, rfl, rfl, f0.hA, rfl, ?_⟩
          refine ⟨_, rfl, _, _, rfl, rfl, (by show (0 : Int) ≤ 18 ∧ (18 : Int) ≤ 1000000 ∧ (10 : Int).natAbs < 2 ^ 64; decide), _, _, rfl, rfl, _, rfl, ?_⟩
          refine ite2 (fun _ => ?_) (fun _ => ?_)
          · refine ⟨_, rfl, _, rfl, a, _, _, 2, rfl, rfl, upd_same, rfl, ?_⟩
            exact ⟨_, _, _, rfl, ⟨cs, _, _, _, f1.put (i' := i + 1) (p' := cv) (s' := s) (by have := f0.i0; omega) c0 f0.s0 f0.s1⟩, (But.upd a H _).trans (But.upd a _ _)⟩
          · refine ⟨_, rfl, a, _, 3, _, rfl, rfl, SqL.of upd_same, rfl, _, _, rfl, rfl, .inr (by decide), _, rfl, _, _, rfl, rfl, .inr (by decide), _, _, rfl, rfl, _, _, rfl, rfl, .inl ⟨_, rfl, _, _, rfl, rfl, (by show (0 : Int) < 2147483647; decide), _, rfl, a, _, _, 3, rfl, rfl, upd_same, rfl, ?_⟩⟩
            refine ⟨_, _, _, rfl, ⟨cs, _, _, _, f1.put (i' := i + 1) (p' := p) (by have := f0.i0; omega) f0.p0 (Int.emod_nonneg _ (by decide)) (Int.lt_trans (Int.emod_lt_of_pos _ (by decide)) (by decide))⟩, (But.upd a H _).trans (But.upd a _ _)⟩
        · exact ⟨_, _, _, rfl, ⟨cs, i, p, s, f0⟩, But.refl a H⟩
      · exact ⟨_, _, _, rfl, ⟨cs, i, p, s, f0⟩, But.refl a H⟩
    · rintro σ' H1 ⟨x2, x3, x4, rfl, ⟨cs, i, p, s, f1⟩, b1⟩
      refine ⟨fun σ' H' => ∃ x2 x3 x4, σ' = [some (.ref a), some (.int m), x2, x3, x4] ∧ FeedAt H' a cl ∧ But a H H', ?_, ?_⟩
      · refine ⟨_, rfl, a, _, 2, _, rfl, rfl, SqL.of f1.hA, rfl, _, _, rfl, rfl, _, rfl, ?_⟩
        refine ite2 (fun z => ?_) (fun _ => ?_)
        · refine ⟨_, rfl, a, _, 2, _, rfl, rfl, SqL.of f1.hA, rfl, .inl ⟨_, rfl, _, rfl, _, _, rfl, rfl, hm, ?_⟩⟩
          refine ⟨_, rfl, a, _, 2, _, rfl, rfl, SqL.of f1.hA, rfl, _, rfl, _, _, rfl, rfl, ⟨hm, hm2⟩, _, rfl, a, _, _, 2, rfl, rfl, f1.hA, rfl, ?_⟩
          refine ⟨_, rfl, ?_⟩
          exact k _ _ (Int.emod_nonneg _ (by omega)) (Int.emod_lt_of_pos _ hm) ⟨cs, _, _, _, f1.put (i' := i) (s' := s) f1.i0 (Int.ediv_nonneg f1.p0 (by omega)) f1.s0 f1.s1⟩ (b1.trans (But.upd a _ _))
        · exact ⟨_, _, _, rfl, ⟨cs, i, p, s, f1⟩, b1⟩
      · rintro σ' H2 ⟨x2, x3, x4, rfl, ⟨cs, i, p, s, f2⟩, b2⟩
        refine ⟨_, rfl, a, _, 3, _, rfl, rfl, SqL.of f2.hA, rfl, _, _, rfl, rfl, .inr (by decide), _, _, rfl, rfl, .inl ⟨_, rfl, _, _, rfl, rfl, (by show (0 : Int) < 2147483629; decide), _, rfl, a, _, _, 3, rfl, rfl, f2.hA, rfl, ?_⟩⟩
        have e0 := Int.emod_nonneg (s * 16807 + 12345) (show (2147483629 : Int) ≠ 0 by decide)
        have e1 := Int.emod_lt_of_pos (s * 16807 + 12345) (show (0 : Int) < 2147483629 by decide)
        have f3 := f2.put (i' := i) (p' := p) (s' := (s * 16807 + 12345) % 2147483629) f2.i0 f2.p0 e0 (by omega)
        refine ⟨_, rfl, a, _, 3, _, rfl, rfl, SqL.of upd_same, rfl, _, rfl, a, _, 3, _, rfl, rfl, SqL.of upd_same, rfl, _, _, rfl, rfl, .inl ⟨by omega, by omega⟩, _, _, rfl, rfl, ⟨by decide, by decide⟩,
          _, rfl, a, _, 3, _, rfl, rfl, SqL.of upd_same, rfl, _, _, rfl, rfl, ⟨by decide, by decide⟩, _, _, rfl, rfl, .inl ⟨_, rfl, _, rfl, _, _, rfl, rfl, hm, ?_⟩⟩
        exact k _ _ (Int.emod_nonneg _ (by omega)) (Int.emod_lt_of_pos _ hm) ⟨cs, _, _, _, f3⟩ (b2.trans (But.upd a _ _))
end
end RX
namespace RX
open PySem L2
theorem But.free {a cl : Addr} {H H1 : Hp} {r : Addr} (x : But a H H1) (h : H1 r = none) (f : FeedAt H1 a cl) : H r = none := by
  cases q : H r with
  | none => rfl
  | some o =>
    by_cases e : r = a
    · subst e
      obtain ⟨cs, i, p, s, f⟩ := f
      rw [f.hA] at h
      cases h
    · rw [x r o q e] at h
      cases h
/-- a def of the law that is called by its name -/
structure CalN (P : Program) (w : World) (K : PySem.W.Frag) (mg : Str → Option Value) (base : Heap) (x : Str) (k : Nat) (ps : List Str) (sp : Sp) (f : Addr) (fd : FuncData) : Prop where
  G : FnOk P w K mg base CX0 k f fd ps sp
  m : mg x = some (.ref f)
  kp : PySem.W.keepIn K (.ref f) = true
  b : Binds K fd ps []
end RX

set_option Elab.async false
set_option maxRecDepth 100000
namespace RX
open PySem L2 LX
/-- any walk: by the turn and the heap -/
theorem walk_loop {J : It} {n : Nat} {G : Hp → Prop} {Y : Nat → Hp → V → Hp → Prop} (w : Walk J n G Y) {B : V → Hp → (Hp → Prop) → Prop} {Qd : Hp → Prop} {H0 : Hp} (Pv : Nat → Hp → Prop) (h0 : Pv 0 H0) (hG : ∀ i H, i ≤ n → Pv i H → G H)
    (hs : ∀ i x H H', i < n → Pv i H → Y i H x H' → B x H' (Pv (i + 1))) (hd : ∀ H, Pv n H → Qd H) :
    ∃ W : Nat → Nat → Hp → Prop, (∃ m, W 0 m H0) ∧ ∀ i m H, W i m H → (J.stop i H ∧ Qd H) ∨ (J.go i H ∧ ∃ Nx : Hp → Prop, (∀ H', Nx H' → ∃ m', m' < m ∧ W (i + 1) m' H') ∧ ∀ x H', J.yld i H x H' → B x H' Nx) := by
  refine ⟨fun i m H => m = n - i ∧ i ≤ n ∧ Pv i H, ⟨n, by simp, Nat.zero_le _, h0⟩, ?_⟩
  rintro i m H ⟨rfl, hi, p⟩
  have q := hG i H hi p
  by_cases hlt : i < n
  · exact .inr ⟨w.goes i H hlt q, Pv (i + 1), fun H' p' => ⟨n - (i + 1), by omega, rfl, hlt, p'⟩, fun x H' y => hs i x H H' hlt p (w.yields i H x H' hlt q y)⟩
  · have e : i = n := by omega
    subst e
    exact .inl ⟨w.stops H q, hd H p⟩
abbrev sBefore : Stmt := topS 2
theorem scCb : FnScope ["one", "other"] ["one", "other"] (defScope sBefore) := ⟨rfl, rfl, rfl, by decide +kernel, rfl, by decide +kernel, by decide +kernel⟩
abbrev sWordsOf : Stmt := topS 3
theorem scOf : FnScope ["letters", "length", "words", "_", "word", "letter"] ["letters", "length"] (defScope sWordsOf) := ⟨rfl, rfl, rfl, by decide +kernel, rfl, by decide +kernel, by decide +kernel⟩
abbrev sAlpha : Stmt := topS 4
theorem scAl : FnScope ["letters"] ["letters"] (defScope sAlpha) := ⟨rfl, rfl, rfl, by decide +kernel, rfl, by decide +kernel, by decide +kernel⟩
abbrev sLBefore : Stmt := topS 9
theorem scBe : FnScope ["one", "two", "k"] ["one", "two"] (defScope sLBefore) := ⟨rfl, rfl, rfl, by decide +kernel, rfl, by decide +kernel, by decide +kernel⟩
abbrev sTold : Stmt := topS 10
theorem scTo : FnScope ["actual", "due"] ["actual", "due"] (defScope sTold) := ⟨rfl, rfl, rfl, by decide +kernel, rfl, by decide +kernel, by decide +kernel⟩
abbrev sWordAt : Stmt := topS 12
theorem scWa : FnScope ["letters", "length", "place", "found", "k"] ["letters", "length", "place"] (defScope sWordAt) := ⟨rfl, rfl, rfl, by decide +kernel, rfl, by decide +kernel, by decide +kernel⟩
/-- a word by its code points -/
def cs (w : List Nat) : Str := ⟨w.toArray⟩
theorem cs_len {w : List Nat} : (cs w).length = w.length := by
  unfold cs Str.length
  simp
theorem cs_inj {u v : List Nat} (h : cs u = cs v) : u = v := by
  have e : u = v := by
    have := congrArg (fun s : Str => s.cps.toList) h
    simpa [cs] using this
  exact e
theorem cs_append {u v : List Nat} : cs u ++ cs v = cs (u ++ v) := by
  show Str.append (cs u) (cs v) = _
  unfold Str.append cs
  simp
theorem wd_cs {w : List Nat} : wd w = cs (w.map (97 + ·)) := rfl
/-- the order of words -/
def bef (x y : Str) : Bool := if x.length = y.length then decide (x.cps.toList < y.cps.toList) else decide (x.length < y.length)
def spCb : Sp := fun vs H Q _ => ∃ x y : Str, vs = [.str x, .str y] ∧ x.length ≤ sizeLine ∧ y.length ≤ sizeLine ∧ Q (.bl (bef x y)) H
def spAl : Sp := fun vs H Q _ => ∃ k : Nat, vs = [.int (k : Int)] ∧ 1 ≤ k ∧ k ≤ 4 ∧ Q (.str (cs ((List.range k).map (97 + ·)))) H
def wordsV (k l : Nat) : List V := (WD.all k l).map fun w => V.str (cs w)
def behind (k : Nat) (w : List Nat) : List V := (List.range k).map fun x => V.str (cs (w ++ [97 + x]))
theorem behind_len {k : Nat} : ∀ {ws : List (List Nat)}, (ws.flatMap (behind k)).length = ws.length * k
  | [] => by simp
  | w :: ws => by
    rw [List.flatMap_cons, List.length_append, behind_len (ws := ws), List.length_cons, Nat.succ_mul]
    unfold behind
    rw [List.length_map, List.length_range]
    omega
def spOf : Sp := fun vs H Q _ => ∃ k l : Nat, vs = [.int (k : Int), .int (l : Int)] ∧ 1 ≤ k ∧ k ≤ 4 ∧ l ≤ 200 ∧ k ^ l ≤ 5000 ∧ ∀ (r : Addr) (H' : Hp), Same H H' → H r = none → H' r = some (.lst (wordsV k l)) → Q (.ref r) H'
/-- a word over the four letters -/
def Lt4 (w : List Nat) : Prop := ∀ x ∈ w, x < 4
def spBe : Sp := fun vs H Q _ => ∃ u v : List Nat, vs = [.str (wd u), .str (wd v)] ∧ Lt4 u ∧ Lt4 v ∧ u.length ≤ 1000 ∧ v.length ≤ 1000 ∧ Q (.bl (bef (wd u) (wd v))) H
def spTold : Sp := fun vs H Q _ => ∃ b : Bool, vs = [.bl b, .bl b] ∧ Q (.bl true) H
def spWa : Sp := fun vs H Q _ => ∃ k l t : Nat, vs = [.int (k : Int), .int (l : Int), .int (t : Int)] ∧ 1 ≤ k ∧ k ≤ 4 ∧ l ≤ 200 ∧ Q (.str (cs (WD.dig k l t))) H
theorem dnat (i j : Nat) : decide (V.int (i : Int) = V.int (j : Int)) = decide (i = j) := by
  by_cases h : i = j
  · rw [h, decide_eq_true rfl, decide_eq_true rfl]
  · rw [decide_eq_false h, decide_eq_false fun z => h (by injection z with z; omega)]
theorem ltnat (i j : Nat) : decide ((i : Int) < (j : Int)) = decide (i < j) := by
  by_cases h : i < j
  · rw [decide_eq_true h, decide_eq_true (by omega)]
  · rw [decide_eq_false h, decide_eq_false (by omega)]
theorem atN {xs : List Nat} {z : Int} {j v : Nat} (e : z = (j : Int)) (h : xs[j]? = some v) : atI xs z = some v := by
  subst e
  have lt : j < xs.length := by
    rcases Nat.lt_or_ge j xs.length with q | q
    · exact q
    · rw [List.getElem?_eq_none q] at h
      cases h
  unfold atI ixN
  rw [if_pos (by omega), if_pos (by omega)]
  exact h
theorem iteF' {b : Bool} {A B : Prop} (h : b = false) (x : B) : if b = true then A else B := by
  subst h
  exact iteF x
theorem iteT' {b : Bool} {A B : Prop} (h : b = true) (x : A) : if b = true then A else B := by
  subst h
  exact iteT x
section
variable {P : Program} {w : World} {K : PySem.W.Frag} {mg : Str → Option Value} {base : Heap}
theorem ok_cb {f : Addr} {fd : FuncData} (F : Fun K "comes_before" "comes_before" sBefore f fd) (T : TxtL mg) : FnOk P w K mg base CX0 1 f fd ["one", "other"] spCb := by
  refine F.ok scCb (fun vs H Q E h => ?_) (fun cdv A outer s H vs Q E hr h => ?_)
  · obtain ⟨x, y, rfl, _⟩ := h
    rfl
  · obtain ⟨x, y, rfl, hx, hy, k⟩ := h
    refine ⟨_, pss_cons (ps_if (pt_cmpR op_ne (pe_callB call_len_str (by rfl) T.len PySem.boot_len (pa_cons (pv 0) pa_nil)) (pe_callB call_len_str (by rfl) T.len PySem.boot_len (pa_cons (pv 1) pa_nil)) (nomark _))
        (pss_one (ps_ret (pe_cmpR op_lt (pe_callB call_len_str (by rfl) T.len PySem.boot_len (pa_cons (pv 0) pa_nil)) (pe_callB call_len_str (by rfl) T.len PySem.boot_len (pa_cons (pv 1) pa_nil)) (nomark _))))
        pss_nil)
      (pss_one (ps_ret (pe_cmpR op_lt_str (pv 0) (pv 1) (nomark _)))), ?_⟩
    refine ⟨_, rfl, x, rfl, hx, _, rfl, y, rfl, hy, rfl, _, rfl, ?_⟩
    rw [dnat]
    unfold bef at k
    by_cases e : x.length = y.length
    · rw [if_pos e] at k
      refine iteF' (by rw [decide_eq_true e]; rfl) ?_
      exact ⟨_, rfl, _, rfl, _, _, rfl, rfl, k⟩
    · rw [if_neg e] at k
      refine iteT' (by rw [decide_eq_false e]; rfl) ?_
      refine ⟨_, rfl, x, rfl, hx, _, rfl, y, rfl, hy, _, _, rfl, rfl, ?_⟩
      show Q (V.bl (decide ((x.length : Int) < (y.length : Int)))) H
      rw [ltnat]
      exact k
theorem ok_al {f : Addr} {fd : FuncData} {t : Tok} (F : Fun K "alphabet" "alphabet" sAlpha f fd) (mL : mg "LETTERS" = some (.str "abcd" t)) : FnOk P w K mg base CX0 1 f fd ["letters"] spAl := by
  refine F.ok scAl (fun vs H Q E h => ?_) (fun cdv A outer s H vs Q E hr h => ?_)
  · obtain ⟨k, rfl, _⟩ := h
    rfl
  · obtain ⟨k, rfl, k1, k4, kk⟩ := h
    refine ⟨_, pss_one (ps_ret (pe_slice sl_str (pe_glob (v := .str "abcd") (by rfl) mL ⟨_, rfl⟩) po_none (po_some (pv 0)))), ?_⟩
    refine ⟨_, rfl, _, rfl, _, rfl, abcd_len, ?_⟩
    have all : ∀ k : Nat, k ≤ 4 → cutS abcd none (some (k : Int)) = cs ((List.range k).map (97 + ·)) := by decide +kernel
    rw [show cutS (PySem.Str.ofString "abcd") none (some (k : Int)) = cs ((List.range k).map (97 + ·)) from all k k4]
    exact kk
theorem ok_of {f fA : Addr} {fd dA : FuncData} (F : Fun K "words_of" "words_of" sWordsOf f fd) (T : TxtL mg) (cAl : CalN P w K mg base "alphabet" 1 ["letters"] spAl fA dA) : FnOk P w K mg base CX0 2 f fd ["letters", "length"] spOf := by
  refine F.ok scOf (fun vs H Q E h => ?_) (fun cdv A outer s H vs Q E hr h => ?_)
  · obtain ⟨k, l, rfl, _⟩ := h
    rfl
  · obtain ⟨k, l, rfl, k1, k4, l200, many, kk⟩ := h
    have hr1 : Room 1 _ := hr.mono (by decide)
    refine ⟨_, pss_cons (ps_set (i := 2) scOf.nd rfl (.inl rfl) (pe_lst (pa_cons pe_str pa_nil)))
      (pss_cons (ps_for PassesOwn.never rfl (pi_range1 (by rfl) T.range (pa_cons (pv 1) pa_nil)) (pg_name (i := 3) scOf.nd rfl (.inl rfl))
        (pss_one (ps_setLc2 (i := 2) (own := [("word", 4), ("letter", 5)]) (vs1 := [5]) (g := gName 4) (tt := tYes) (g1 := gName 5) (tt1 := tYes) rfl scOf.nd rfl rfl (sw_true rfl rfl rfl (by decide +kernel)) (pi_list (pv 2)) (blkOk_by (N := ["letters", "length", "words", "_", "word", "letter"]) (sc := (defScope sWordsOf)) (by decide +kernel)) (by decide) (fun _ _ _ _ _ => (pg_name (i := 4) scOf.nd rfl (.inl rfl))) (fun _ _ _ _ _ => pts_nil) (fun _ _ _ _ _ => (pi_str (pe_call cAl.G hr1 rfl cAl.m cAl.kp cAl.b .nil pass0 (pa_cons (pv 0) pa_nil)))) (fun _ _ _ _ _ => (pg_name (i := 5) scOf.nd rfl (.inl rfl))) (fun _ _ _ _ _ => pts_nil) (fun _ _ _ _ _ => (pe_op op_add_str (pv 4) (pv 5))))))
      (pss_one (ps_ret (pv 2)))), ?_⟩
    refine ⟨(by show 1 ≤ sizeLine; decide), fun r0 n0 => ?_⟩
    refine ⟨_, rfl, _, rfl, by omega, by omega, for_range (n := l) (fun i σ H' => ∃ (r : Addr) (y : Option V), σ = [some (.int (k : Int)), some (.int (l : Int)), some (.ref r), y, none, none] ∧ Same H H' ∧ H r = none ∧ H' r = some (.lst (wordsV k i)))
      ⟨r0, none, rfl, Same.upd n0, n0, upd_same⟩ ?_ ?_⟩
    · rintro i σ H' hi ⟨r, y, rfl, s1, nr, hr'⟩
      have le : k ^ (i + 1) ≤ 5000 := Nat.le_trans (Nat.pow_le_pow_right k1 hi) many
      refine ⟨_, rfl, r, rfl, ⟨_, SqL.of hr'⟩, fun D nD => ?_⟩
      have rD : r ≠ D := ne_of_none hr' nD
      have len_i : (WD.all k i).length ≤ 5000 := by
        rw [WD.all_len]
        exact Nat.le_trans (Nat.pow_le_pow_right k1 (Nat.le_succ i)) le
      refine walk_loop (walk_list (K := K) (a := r) (xs := wordsV k i)) (fun j H2 => Same H H2 ∧ H2 r = some (.lst (wordsV k i)) ∧ H2 D = some (.lst (((WD.all k i).take j).flatMap (behind k)))) ⟨s1.trans (Same.upd nD), by rw [upd_ne rD]; exact hr', upd_same⟩ (fun j H2 _ h => SqL.of h.2.1) ?_ ?_
      · rintro j x H2 H3 hj ⟨s2, hq, hD⟩ ⟨rfl, hx⟩
        unfold wordsV at hx hj
        rw [List.length_map] at hj
        rw [List.getElem?_map, List.getElem?_eq_getElem hj] at hx
        obtain rfl := Option.some.inj hx
        have tk : (WD.all k i).take (j + 1) = (WD.all k i).take j ++ [(WD.all k i)[j]] := by
          rw [List.take_add_one, List.getElem?_eq_getElem hj]
          rfl
        have wl : ((WD.all k i)[j]).length = i := by
          have e : (WD.all k i)[j]? = some (WD.dig k i j) := WD.all_at (by rw [WD.all_len] at hj; exact hj)
          rw [List.getElem?_eq_getElem hj] at e
          rw [Option.some.inj e, WD.dig_len]
        have pl : (((WD.all k i).take (j + 1)).flatMap (behind k)).length ≤ 5000 := by
          rw [behind_len, List.length_take]
          have : min (j + 1) (WD.all k i).length * k ≤ (WD.all k i).length * k := Nat.mul_le_mul_right _ (Nat.min_le_right _ _)
          rw [WD.all_len] at this ⊢
          exact Nat.le_trans this le
        rw [tk, List.flatMap_append, List.length_append] at pl
        generalize hw : (WD.all k i)[j] = w0 at tk pl wl
        generalize hp : (((WD.all k i).take j).flatMap (behind k)) = pre at hD pl
        have e1 : ((WD.all k i).take (j + 1)).flatMap (behind k) = pre ++ behind k w0 := by
          rw [tk, List.flatMap_append, hp]
          simp [List.flatMap]
        rw [e1]
        refine ⟨rfl, _, rfl, k, rfl, k1, k4, _, rfl, ?_⟩
        refine walk_loop walk_str (fun i2 H4 => Same H H4 ∧ H4 r = some (.lst (wordsV k i)) ∧ H4 D = some (.lst (pre ++ (behind k w0).take i2))) ⟨s2, hq, by rw [List.take_zero, List.append_nil]; exact hD⟩ (fun _ _ _ _ => trivial) ?_ ?_
        · rintro i2 v H4 H5 hi2 ⟨s4, hq4, hD4⟩ ⟨rfl, c, hc, rfl⟩
          have hk : i2 < k := by
            have e : (cs ((List.range k).map (97 + ·))).cps.size = k := by
              show (cs ((List.range k).map (97 + ·))).length = k
              rw [cs_len, List.length_map, List.length_range]
            rw [e] at hi2
            exact hi2
          have ec : c = 97 + i2 := by
            unfold cs at hc
            simp [hk] at hc
            exact hc.symm
          subst ec
          have bk : (behind k w0).take (i2 + 1) = (behind k w0).take i2 ++ [V.str (cs (w0 ++ [97 + i2]))] := by
            rw [List.take_add_one]
            unfold behind
            rw [List.getElem?_map, List.getElem?_range hk]
            rfl
          have ln : (pre ++ (behind k w0).take i2).length < sizeLine := by
            rw [List.length_append, List.length_take]
            have h1 : [w0].flatMap (behind k) = behind k w0 := by simp [List.flatMap]
            rw [h1] at pl
            exact Nat.lt_of_le_of_lt (show _ ≤ 5000 by omega) (by decide)
          refine ⟨rfl, _, rfl, _, rfl, cs w0, cs [97 + i2], rfl, rfl, ?_, _, hD4, ln, fun b o e => ?_, by rw [upd_ne rD]; exact hq4, ?_⟩
          · rw [cs_len, cs_len, wl]
            exact Nat.le_of_lt (small1000 (by show i + 1 ≤ 1000; omega))
          · rw [upd_ne (ne_of_none (s1 _ _ e) nD)]
            exact s4 _ _ e
          · rw [upd_same, cs_append, bk, List.append_assoc]
        · rintro H4 ⟨s4, hq4, hD4⟩
          have e : (cs ((List.range k).map (97 + ·))).cps.size = k := by
            show (cs ((List.range k).map (97 + ·))).length = k
            rw [cs_len, List.length_map, List.length_range]
          have full : (behind k w0).take k = behind k w0 := by
            refine List.take_of_length_le ?_
            unfold behind
            rw [List.length_map, List.length_range]
            exact Nat.le_refl _
          rw [e, full] at hD4
          exact ⟨s4, hq4, hD4⟩
      · rintro H2 ⟨s2, hq, hD⟩
        refine ⟨_, _, rfl, s2, s1.free nD, ?_⟩
        rw [hD]
        unfold wordsV
        rw [List.length_map, List.take_length, WD.all_behind, List.map_flatMap]
        have e : behind k = fun w => List.map (fun w => V.str (cs w)) (List.map (fun x => w ++ [97 + x]) (List.range k)) := by
          funext w
          unfold behind
          rw [List.map_map]
          rfl
        rw [e]
    · rintro σ H' ⟨r, y, rfl, s1, nr, hr'⟩
      exact ⟨_, rfl, kk r H' s1 nr hr'⟩
theorem ok_told {f : Addr} {fd : FuncData} (F : Fun K "_law_told" "_law_told" sTold f fd) (T : TxtL mg) : FnOk P w K mg base CX0 1 f fd ["actual", "due"] spTold := by
  refine F.ok scTo (fun vs H Q E h => ?_) (fun cdv A outer s H vs Q E hr h => ?_)
  · obtain ⟨b, rfl, _⟩ := h
    rfl
  · obtain ⟨b, rfl, k⟩ := h
    refine ⟨_, pss_one (ps_ret (pe_and (pe_callB call_isi (by rfl) T.isi (by decide +kernel) (pa_cons (pv 0) (pa_cons (pe_bltn (v := .ty "bool") (by rfl) T.bool (by decide +kernel) rfl) pa_nil))) (pe_one (pe_cmpR op_eq (pv 0) (pv 1) (nomark _))))), ?_⟩
    refine ⟨_, rfl, _, _, _, _, true, rfl, .ty _, .base (.bl b), kit_ty (by decide +kernel), true, rfl, ?_⟩
    refine iteT ?_
    refine ⟨_, rfl, _, rfl, rfl, ?_⟩
    show Q (V.bl (decide (V.bl b = V.bl b))) H
    rw [decide_eq_true rfl]
    exact k
theorem ok_be {f : Addr} {fd : FuncData} (F : Fun K "_law_before" "_law_before" sLBefore f fd) (T : TxtL mg) : FnOk P w K mg base CX0 1 f fd ["one", "two"] spBe := by
  refine F.ok scBe (fun vs H Q E h => ?_) (fun cdv A outer s H vs Q E hr h => ?_)
  · obtain ⟨u, v, rfl, _⟩ := h
    rfl
  · obtain ⟨u, v, rfl, hu, hv, lu, lv, k⟩ := h
    have su : (wd u).length ≤ sizeLine := by rw [wd_len]; exact Nat.le_of_lt (small1000 lu)
    have sv : (wd v).length ≤ sizeLine := by rw [wd_len]; exact Nat.le_of_lt (small1000 lv)
    refine ⟨_, pss_cons (ps_if (pt_cmpR op_ne (pe_callB call_len_str (by rfl) T.len PySem.boot_len (pa_cons (pv 0) pa_nil)) (pe_callB call_len_str (by rfl) T.len PySem.boot_len (pa_cons (pv 1) pa_nil)) (nomark _))
        (pss_one (ps_ret (pe_cmpR op_lt (pe_callB call_len_str (by rfl) T.len PySem.boot_len (pa_cons (pv 0) pa_nil)) (pe_callB call_len_str (by rfl) T.len PySem.boot_len (pa_cons (pv 1) pa_nil)) (nomark _))))
        pss_nil)
      (pss_cons (ps_for PassesOwn.never rfl (pi_range1 (by rfl) T.range (pa_cons (pe_callB call_len_str (by rfl) T.len PySem.boot_len (pa_cons (pv 0) pa_nil)) pa_nil)) (pg_name (i := 2) scBe.nd rfl (.inl rfl))
        (pss_one (ps_if (pt_cmpR op_ne (pe_ix ix_str (pv 0) (pv 2) (fun _ _ => rfl)) (pe_ix ix_str (pv 1) (pv 2) (fun _ _ => rfl)) (nomark _))
          (pss_one (ps_ret (pe_cmpR op_lt (pe_bm PySem.F.plainAttrs_str PySem.F.slot_str_index PySem.F.type_str_index LX.mt_letter pe_str (pa_cons (pe_ix ix_str (pv 0) (pv 2) (fun _ _ => rfl)) pa_nil)) (pe_bm PySem.F.plainAttrs_str PySem.F.slot_str_index PySem.F.type_str_index LX.mt_letter pe_str (pa_cons (pe_ix ix_str (pv 1) (pv 2) (fun _ _ => rfl)) pa_nil)) (nomark _))))
          pss_nil)))
      (pss_one (ps_ret pe_bl))), ?_⟩
    refine ⟨_, rfl, _, rfl, su, _, rfl, _, rfl, sv, rfl, _, rfl, ?_⟩
    rw [dnat]
    unfold bef at k
    by_cases e : (wd u).length = (wd v).length
    · rw [if_pos e] at k
      refine iteF' (by rw [decide_eq_true e]; rfl) ?_
      rw [wd_len, wd_len] at e
      refine ⟨_, rfl, _, rfl, su, _, rfl, by omega, by rw [wd_len]; omega, for_range (n := (wd u).length) (fun i σ H' => ∃ y : Option V, σ = [some (.str (wd u)), some (.str (wd v)), y] ∧ H' = H ∧ ∀ j, j < i → u[j]? = v[j]?)
        ⟨none, rfl, rfl, fun j hj => absurd hj (by omega)⟩ ?_ ?_⟩
      · rintro i σ H' hi ⟨y, rfl, rfl, same⟩
        rw [wd_len] at hi
        have hi' : i < v.length := by omega
        have au : atI (wd u).cps.toList (0 + (i : Int)) = some (97 + u[i]) := by
          refine atN (Int.zero_add _) ?_
          rw [wd_cps, List.getElem?_map, List.getElem?_eq_getElem hi]
          rfl
        have av : atI (wd v).cps.toList (0 + (i : Int)) = some (97 + v[i]) := by
          refine atN (Int.zero_add _) ?_
          rw [wd_cps, List.getElem?_map, List.getElem?_eq_getElem hi']
          rfl
        have l1 : u[i] < 4 := hu _ (List.getElem_mem hi)
        have l2 : v[i] < 4 := hv _ (List.getElem_mem hi')
        refine ⟨_, rfl, _, rfl, _, _, _, rfl, rfl, su, au, _, rfl, _, rfl, _, _, _, rfl, rfl, sv, av, rfl, _, rfl, ?_⟩
        by_cases q : u[i] = v[i]
        · refine iteF' (by rw [show (⟨#[97 + u[i]]⟩ : Str) = ⟨#[97 + v[i]]⟩ by rw [q], decide_eq_true rfl]; rfl) ?_
          refine ⟨_, rfl, rfl, fun j hj => ?_⟩
          by_cases ej : j = i
          · rw [ej, List.getElem?_eq_getElem hi, List.getElem?_eq_getElem hi', q]
          · exact same j (by omega)
        · have ne : ¬ V.str (⟨#[97 + u[i]]⟩ : Str) = V.str ⟨#[97 + v[i]]⟩ := fun z => q (by
            injection z with z
            exact ltr_inj.mp z)
          refine iteT' (by rw [decide_eq_false ne]; rfl) ?_
          refine ⟨rfl, _, rfl, _, rfl, _, _, _, rfl, rfl, su, au, u[i], l1, rfl, rfl, ?_⟩
          refine ⟨rfl, _, rfl, _, rfl, _, _, _, rfl, rfl, sv, av, v[i], l2, rfl, rfl, ?_⟩
          refine ⟨_, _, rfl, rfl, ?_⟩
          have key : decide (((u[i] : Nat) : Int) < ((v[i] : Nat) : Int)) = decide ((wd u).cps.toList < (wd v).cps.toList) := by
            rw [ltnat]
            have := WD.lt_at (u := u.map (97 + ·)) (v := v.map (97 + ·)) (i := i) (x := 97 + u[i]) (y := 97 + v[i]) (by rw [List.length_map, List.length_map]; exact e) (fun j hj => by rw [List.getElem?_map, List.getElem?_map, same j hj])
              (by rw [List.getElem?_map, List.getElem?_eq_getElem hi]; rfl) (by rw [List.getElem?_map, List.getElem?_eq_getElem hi']; rfl) (by omega)
            rw [decide_eq_decide, wd_cps, wd_cps, this]
            omega
          show Q (V.bl (decide (((u[i] : Nat) : Int) < ((v[i] : Nat) : Int)))) _
          rw [key]
          exact k
      · rintro σ H' ⟨y, rfl, rfl, same⟩
        have uv : u = v := by
          refine List.ext_getElem? fun j => ?_
          by_cases hj : j < u.length
          · exact same j (by rw [wd_len]; exact hj)
          · rw [List.getElem?_eq_none (by omega), List.getElem?_eq_none (by omega)]
        subst uv
        rw [decide_eq_false (List.lt_irrefl _)] at k
        exact k
    · rw [if_neg e] at k
      refine iteT' (by rw [decide_eq_false e]; rfl) ?_
      refine ⟨_, rfl, _, rfl, su, _, rfl, _, rfl, sv, _, _, rfl, rfl, ?_⟩
      show Q (V.bl (decide (((wd u).length : Int) < ((wd v).length : Int)))) H
      rw [ltnat]
      exact k
theorem ok_wa {f : Addr} {fd : FuncData} (F : Fun K "_law_word_at" "_law_word_at" sWordAt f fd) (T : TxtL mg) : FnOk P w K mg base CX0 1 f fd ["letters", "length", "place"] spWa := by
  refine F.ok scWa (fun vs H Q E h => ?_) (fun cdv A outer s H vs Q E hr h => ?_)
  · obtain ⟨k, l, t, rfl, _⟩ := h
    rfl
  · obtain ⟨k, l, t, rfl, k1, k4, l200, kk⟩ := h
    refine ⟨_, pss_cons (ps_set (i := 3) scWa.nd rfl (.inl rfl) pe_str)
      (pss_cons (ps_for PassesOwn.never rfl (pi_range1 (by rfl) T.range (pa_cons (pv 1) pa_nil)) (pg_name (i := 4) scWa.nd rfl (.inl rfl))
        (pss_cons (ps_set (i := 3) scWa.nd rfl (.inl rfl) (pe_op op_add_str (pe_ix ix_str pe_str (pe_op op_mod (pe_callTy call_int1 (by rfl) T.int (by decide +kernel) (pa_cons (pv 2) pa_nil)) (pv 0)) (fun _ _ => rfl)) (pv 3)))
        (pss_one (ps_set (i := 2) scWa.nd rfl (.inl rfl) (pe_op op_fdiv (pv 2) (pv 0))))))
      (pss_one (ps_ret (pv 3)))), ?_⟩
    refine ⟨_, rfl, _, rfl, by omega, by omega, for_range (n := l) (fun i σ H' => ∃ (t' : Nat) (v : List Nat) (y : Option V), σ = [some (.int (k : Int)), some (.int (l : Int)), some (.int (t' : Int)), some (.str (cs v)), y] ∧ H' = H ∧ v.length = i ∧ WD.dig k l t = WD.dig k (l - i) t' ++ v)
      ⟨t, [], none, rfl, rfl, rfl, by rw [List.append_nil, Nat.sub_zero]⟩ ?_ ?_⟩
    · rintro i σ H' hi ⟨t', v, y, rfl, rfl, vl, e⟩
      have md : t' % k < k := Nat.mod_lt _ (by omega)
      refine ⟨_, rfl, .inl ⟨_, rfl, _, rfl, _, _, rfl, rfl, (by show (0 : Int) < (k : Int); omega), ?_⟩⟩
      have em : (t' : Int) % (k : Int) = ((t' % k : Nat) : Int) := by omega
      have ed : (t' : Int) / (k : Int) = ((t' / k : Nat) : Int) := by omega
      refine ⟨_, _, (97 + t' % k), rfl, rfl, abcd_len, by rw [em]; exact abcd_at (by omega), ?_⟩
      refine ⟨_, rfl, cs [97 + t' % k], cs v, rfl, rfl, by rw [cs_len, cs_len, vl]; exact Nat.le_of_lt (small1000 (by show 1 + i ≤ 1000; omega)), ?_⟩
      refine ⟨_, rfl, _, rfl, _, _, rfl, rfl, ⟨by omega, by omega⟩, ?_⟩
      refine ⟨t' / k, (97 + t' % k) :: v, _, by rw [cs_append]; show _ = [_, _, some (V.int ((t' / k : Nat) : Int)), _, _]; rw [← ed]; rfl, rfl, by rw [List.length_cons, vl], ?_⟩
      rw [e, show l - i = (l - (i + 1)) + 1 by omega]
      show (WD.dig k (l - (i + 1)) (t' / k) ++ [97 + t' % k]) ++ v = _
      rw [List.append_assoc]
      rfl
    · rintro σ H' ⟨t', v, y, rfl, rfl, vl, e⟩
      rw [Nat.sub_self] at e
      have e : WD.dig k l t = v := e
      rw [e] at kk
      exact ⟨_, rfl, kk⟩
end
end RX

set_option Elab.async false
set_option maxRecDepth 100000
namespace RX
open PySem L2 LX
abbrev sWord : Stmt := topS 8
theorem scWo : FnScope ["feed", "letters", "length", "k"] ["feed", "letters", "length"] (defScope sWord) := ⟨rfl, rfl, rfl, by decide +kernel, rfl, by decide +kernel, by decide +kernel⟩
abbrev sSecond : Stmt := topS 11
theorem scSe : FnScope ["feed", "one", "limit", "kind", "at"] ["feed", "one", "limit"] (defScope sSecond) := ⟨rfl, rfl, rfl, by decide +kernel, rfl, by decide +kernel, by decide +kernel⟩
def spWo : Sp := fun vs H Q _ => ∃ (a cl : Addr) (k n : Nat), vs = [.ref a, .int (k : Int), .int (n : Int)] ∧ FeedAt H a cl ∧ 1 ≤ k ∧ k ≤ 4 ∧ n ≤ 200 ∧ ∀ (u : List Nat) (H' : Hp), u.length = n → (∀ x ∈ u, x < k) → FeedAt H' a cl → But a H H' → Q (.str (wd u)) H'
def spSe : Sp := fun vs H Q _ => ∃ (a cl : Addr) (u : List Nat) (m : Nat), vs = [.ref a, .str (wd u), .int (m : Int)] ∧ FeedAt H a cl ∧ Lt4 u ∧ u.length ≤ 200 ∧ 1 ≤ m ∧ m ≤ 201 ∧ ∀ (v : List Nat) (H' : Hp), Lt4 v → v.length ≤ 1000 → FeedAt H' a cl → But a H H' → Q (.str (wd v)) H'
theorem FeedAt.ne_new {H : Hp} {a cl r : Addr} (h : FeedAt H a cl) (n : H r = none) : r ≠ a ∧ r ≠ cl := by
  obtain ⟨cs, i, p, s, f⟩ := h
  exact ⟨(ne_of_none f.hA n).symm, (ne_of_none f.hC n).symm⟩
theorem FeedAt.other {H : Hp} {a cl r : Addr} {o : HO} (h : FeedAt H a cl) (h1 : r ≠ a) (h2 : r ≠ cl) : FeedAt (upd H r o) a cl :=
  let ⟨cs, i, p, s, f⟩ := h
  ⟨cs, i, p, s, by rw [upd_ne h1.symm]; exact f.hA, by rw [upd_ne h2.symm]; exact f.hC, f.ne, f.i0, f.p0, f.s0, f.s1, f.len, f.nn⟩
theorem cut_to {u : List Nat} {i : Nat} (h : i ≤ u.length) : cutS (wd u) none (some (i : Int)) = wd (u.take i) := by
  unfold cutS
  rw [HT.sIx_nat, HT.sIx_none, wd_len, Nat.min_eq_left h, List.drop_zero, Nat.sub_zero, wd_cps, ← List.map_take]
  rfl
theorem cut_from {u : List Nat} {i : Nat} (h : i ≤ u.length) : cutS (wd u) (some (i : Int)) none = wd (u.drop i) := by
  unfold cutS
  rw [HT.sIx_nat, HT.sIx_none, wd_len, Nat.min_eq_left h, wd_cps, ← List.map_drop, List.take_of_length_le (by rw [List.length_map, List.length_drop]; omega)]
  rfl
section
variable {P : Program} {w : World} {K : PySem.W.Frag} {mg : Str → Option Value} {base : Heap}
theorem ok_wo {f fD : Addr} {fd dD : FuncData} (F : Fun K "_law_word" "_law_word" sWord f fd) (T : TxtL mg) (cDr : CalN P w K mg base "_law_draw" 1 ["feed", "limit"] spDraw fD dD) : FnOk P w K mg base CX0 2 f fd ["feed", "letters", "length"] spWo := by
  refine F.ok scWo (fun vs H Q E h => ?_) (fun cdv A outer s H vs Q E hr h => ?_)
  · obtain ⟨a, cl, k, n, rfl, _⟩ := h
    rfl
  · obtain ⟨a, cl, k, n, rfl, hF, k1, k4, n200, kk⟩ := h
    have hr1 : Room 1 _ := hr.mono (by decide)
    refine ⟨_, pss_one (ps_ret (pe_bm PySem.F.plainAttrs_str PySem.F.slot_str_join PySem.F.type_str_join mt_join pe_str (pa_cons (pe_lc (own := [("k", 3)]) (g := gName 3) (tt := tYes) rfl scWo.nd (pi_range1 (by rfl) T.range (pa_cons (pv 2) pa_nil)) (blkOk_by (N := ["feed", "letters", "length", "k"]) (sc := (defScope sWord)) (by decide +kernel)) (fun _ _ _ _ _ => (pg_name (i := 3) scWo.nd rfl (.inl rfl))) (fun _ _ _ _ _ => pts_nil) (fun _ _ _ _ _ => (pe_ix ix_str pe_str (pe_call cDr.G hr1 rfl cDr.m cDr.kp cDr.b .nil pass0 (pa_cons (pv 0) (pa_cons (pv 1) pa_nil))) (fun _ _ => rfl)))) pa_nil))), ?_⟩
    refine ⟨rfl, _, rfl, _, rfl, by omega, by omega, fun D nD => ?_⟩
    obtain ⟨Da, Dc⟩ := hF.ne_new nD
    refine walk_loop (walk_range (lo := 0) (n := n)) (fun i H2 => ∃ u : List Nat, u.length = i ∧ (∀ x ∈ u, x < k) ∧ FeedAt H2 a cl ∧ But a H H2 ∧ H2 D = some (.lst (u.map fun x => V.str (ltr x)))) ⟨[], rfl, fun x hx => absurd hx List.not_mem_nil, hF.other Da Dc, Same.but (Same.upd nD), upd_same⟩ (fun _ _ _ _ => trivial) ?_ ?_
    · rintro i x H2 H3 hi ⟨u, ul, hu, f2, b2, hD⟩ ⟨rfl, rfl⟩
      refine ⟨rfl, _, rfl, _, rfl, a, cl, (k : Int), rfl, f2, by omega, by omega, fun r H4 r0 r1 f4 b4 => ?_⟩
      have er : r = ((r.toNat : Nat) : Int) := by omega
      have lt : r.toNat < k := by omega
      refine ⟨_, _, 97 + r.toNat, rfl, rfl, abcd_len, by rw [er, Int.toNat_natCast]; exact abcd_at (by omega), ?_⟩
      refine ⟨_, b4 _ _ hD Da, ?_, u ++ [r.toNat], by rw [List.length_append, ul]; rfl, ?_, f4.other Da Dc, fun b o e n => ?_, ?_⟩
      · rw [List.length_map, ul]
        exact small1000 (by omega)
      · intro x hx
        rcases List.mem_append.mp hx with hx | hx
        · exact hu x hx
        · rw [List.mem_singleton.mp hx]
          exact lt
      · rw [upd_ne (ne_of_none e nD)]
        exact b4 _ _ (b2 _ _ e n) n
      · rw [upd_same, List.map_append]
        rfl
    · rintro H2 ⟨u, ul, hu, f2, b2, hD⟩
      refine ⟨_, D, u.map ltr, rfl, rfl, .inl (SqL.of (by rw [List.map_map]; exact hD)), ?_, ?_⟩
      · have e : ((u.map ltr).map (·.length)).sum = u.length := by
          clear hD hu ul
          induction u with
          | nil => rfl
          | cons x u ih =>
            rw [List.map_cons, List.map_cons, List.sum_cons, ih, List.length_cons]
            show 1 + u.length = _
            omega
        rw [e, List.length_map, ul]
        show n + n * 0 ≤ 16777216
        omega
      · rw [join_wd]
        exact kk u H2 ul hu f2 b2
theorem lt4_of {k : Nat} {u : List Nat} (k4 : k ≤ 4) (h : ∀ x ∈ u, x < k) : Lt4 u := fun x hx => Nat.lt_of_lt_of_le (h x hx) k4
theorem ok_se {f fD fW : Addr} {fd dD dW : FuncData} (F : Fun K "_law_second" "_law_second" sSecond f fd) (T : TxtL mg) (cDr : CalN P w K mg base "_law_draw" 1 ["feed", "limit"] spDraw fD dD) (cWo : CalN P w K mg base "_law_word" 2 ["feed", "letters", "length"] spWo fW dW) : FnOk P w K mg base CX0 3 f fd ["feed", "one", "limit"] spSe := by
  refine F.ok scSe (fun vs H Q E h => ?_) (fun cdv A outer s H vs Q E hr h => ?_)
  · obtain ⟨a, cl, u, m, rfl, _⟩ := h
    rfl
  · obtain ⟨a, cl, u, m, rfl, hF, hu, lu, m1, m2, kk⟩ := h
    have hr1 : Room 1 _ := hr.mono (by decide)
    have hr2 : Room 2 _ := hr.mono (by decide)
    have su : (wd u).length ≤ sizeLine := by rw [wd_len]; exact Nat.le_of_lt (small1000 (by omega))
    have sum2 : ∀ x y : List Nat, x.length + y.length ≤ 1000 → (wd x).length + (wd y).length ≤ sizeLine := fun x y h => by
      rw [wd_len, wd_len]
      exact Nat.le_of_lt (small1000 h)
    refine ⟨_, pss_cons (ps_set (i := 3) scSe.nd rfl (.inl rfl) (pe_call cDr.G hr1 rfl cDr.m cDr.kp cDr.b .nil pass0 (pa_cons (pv 0) (pa_cons pe_int pa_nil))))
      (pss_cons (ps_if (pt_cmpR op_eq (pv 3) pe_int (nomark _))
        (pss_one (ps_ret (pv 1)))
        pss_nil)
      (C8.pss_cut (ps_if (PW.pt (pw_and (pt_cmpR op_eq (pv 3) pe_int (nomark _)) (pw_and1 (pt_cmpR op_gt (pe_callB call_len_str (by rfl) T.len PySem.boot_len (pa_cons (pv 1) pa_nil)) pe_int (nomark _)))))
        (pss_cons (ps_set (i := 4) scSe.nd rfl (.inl rfl) (pe_call cDr.G hr1 rfl cDr.m cDr.kp cDr.b .nil pass0 (pa_cons (pv 0) (pa_cons (pe_callB call_len_str (by rfl) T.len PySem.boot_len (pa_cons (pv 1) pa_nil)) pa_nil))))
        (pss_one (ps_ret (pe_op op_add_str (pe_op op_add_str (pe_slice sl_str (pv 1) po_none (po_some (pv 4))) (pe_call cWo.G hr2 rfl cWo.m cWo.kp cWo.b .nil pass0 (pa_cons (pv 0) (pa_cons pe_int (pa_cons pe_int pa_nil))))) (pe_slice sl_str (pv 1) (po_some (pe_op op_add (pv 4) pe_int)) po_none)))))
        pss_nil)
      (C8.pss_cut (ps_if (PW.pt (pw_and (pt_cmpR op_eq (pv 3) pe_int (nomark _)) (pw_and1 (pt_cmpR op_lt (pe_callB call_len_str (by rfl) T.len PySem.boot_len (pa_cons (pv 1) pa_nil)) pe_int (nomark _)))))
        (pss_one (ps_ret (pe_op op_add_str (pv 1) (pe_call cWo.G hr2 rfl cWo.m cWo.kp cWo.b .nil pass0 (pa_cons (pv 0) (pa_cons pe_int (pa_cons pe_int pa_nil)))))))
        pss_nil)
      (pss_one (ps_ret (pe_call cWo.G hr2 rfl cWo.m cWo.kp cWo.b .nil pass0 (pa_cons (pv 0) (pa_cons pe_int (pa_cons (pe_call cDr.G hr1 rfl cDr.m cDr.kp cDr.b .nil pass0 (pa_cons (pv 0) (pa_cons (pv 2) pa_nil))) pa_nil))))))))), ?_⟩
    refine ⟨_, rfl, a, cl, 4, rfl, hF, by decide, by decide, fun kd H1 k0 k4 f1 b1 => ?_⟩
    refine ⟨_, rfl, rfl, _, rfl, ?_⟩
    refine ite2 (fun _ => ⟨_, rfl, kk u H1 hu (by omega) f1 b1⟩) (fun _ => ?_)
    refine ⟨fun σ' H' => σ' = [some (.ref a), some (.str (wd u)), some (.int (m : Int)), some (.int kd), none] ∧ FeedAt H' a cl ∧ But a H H', ?_, ?_⟩
    · refine ⟨_, rfl, rfl, _, rfl, ite2 (fun _ => ?_) (fun _ => ⟨rfl, f1, b1⟩)⟩
      refine ⟨_, rfl, _, rfl, su, _, _, rfl, rfl, _, rfl, ite2 (fun z => ?_) (fun _ => ⟨rfl, f1, b1⟩)⟩
      have z := of_decide_eq_true z
      rw [wd_len] at z
      refine ⟨_, rfl, _, rfl, _, rfl, su, a, cl, _, rfl, f1, by rw [wd_len]; omega, by rw [wd_len]; omega, fun at_ H2 a0 a1 f2 b2 => ?_⟩
      rw [wd_len] at a1
      have ea : at_ = ((at_.toNat : Nat) : Int) := by omega
      refine ⟨_, rfl, _, rfl, _, rfl, _, rfl, su, _, rfl, a, cl, 4, 1, rfl, f2, by decide, by decide, by decide, fun v H3 vl hv f3 b3 => ?_⟩
      rw [ea, cut_to (by omega)]
      have c2 : cutS (wd u) (some (((at_.toNat : Nat) : Int) + 1)) none = wd (u.drop (at_.toNat + 1)) := cut_from (i := at_.toNat + 1) (by omega)
      refine ⟨_, _, rfl, rfl, sum2 _ _ (by rw [List.length_take, vl]; omega), _, rfl, _, rfl, _, _, rfl, rfl, _, rfl, _, rfl, su, ?_⟩
      rw [c2, wd_append]
      refine ⟨_, _, rfl, rfl, sum2 _ _ (by rw [List.length_append, List.length_take, List.length_drop, vl]; omega), ?_⟩
      rw [wd_append]
      refine kk _ H3 (fun x hx => ?_) (by rw [List.length_append, List.length_append, List.length_take, List.length_drop, vl]; omega) f3 ((b1.trans b2).trans b3)
      rcases List.mem_append.mp hx with hx | hx
      · rcases List.mem_append.mp hx with hx | hx
        · exact hu x (List.mem_of_mem_take hx)
        · exact hv x hx
      · exact hu x (List.mem_of_mem_drop hx)
    · rintro σ' H2 ⟨rfl, f2, b2⟩
      refine ⟨fun σ' H' => σ' = [some (.ref a), some (.str (wd u)), some (.int (m : Int)), some (.int kd), none] ∧ FeedAt H' a cl ∧ But a H H', ?_, ?_⟩
      · refine ⟨_, rfl, rfl, _, rfl, ite2 (fun _ => ?_) (fun _ => ⟨rfl, f2, b2⟩)⟩
        refine ⟨_, rfl, _, rfl, su, _, _, rfl, rfl, _, rfl, ite2 (fun z => ?_) (fun _ => ⟨rfl, f2, b2⟩)⟩
        refine ⟨_, rfl, _, rfl, a, cl, 4, 1, rfl, f2, by decide, by decide, by decide, fun v H3 vl hv f3 b3 => ?_⟩
        refine ⟨_, _, rfl, rfl, sum2 _ _ (by rw [vl]; omega), ?_⟩
        rw [wd_append]
        refine kk _ H3 (fun x hx => ?_) (by rw [List.length_append, vl]; omega) f3 (b2.trans b3)
        rcases List.mem_append.mp hx with hx | hx
        · exact hu x hx
        · exact hv x hx
      · rintro σ' H3 ⟨rfl, f3, b3⟩
        refine ⟨_, rfl, _, rfl, _, rfl, a, cl, _, rfl, f3, by omega, by omega, fun r H4 r0 r1 f4 b4 => ?_⟩
        refine ⟨a, cl, 4, r.toNat, (by rw [Int.toNat_of_nonneg r0]; rfl), f4, by decide, by decide, by omega, fun v H5 vl hv f5 b5 => ?_⟩
        exact kk v H5 hv (by omega) f5 ((b3.trans b4).trans b5)
end
end RX

set_option Elab.async false
set_option maxRecDepth 100000
namespace RX
open PySem L2 LX
abbrev sListed : Stmt := topS 13
theorem scLi : FnScope ["found", "letters", "length", "many", "k", "place"] ["found", "letters", "length"] (defScope sListed) := ⟨rfl, rfl, rfl, by decide +kernel, rfl, by decide +kernel, by decide +kernel⟩
abbrev sLaw : Stmt := topS 14
theorem scL : FnScope ["script", "feed", "limit", "one", "two", "letters", "length", "found"] ["script"] (defScope sLaw) := ⟨rfl, rfl, rfl, by decide +kernel, rfl, by decide +kernel, by decide +kernel⟩
def spLi (K : PySem.W.Frag) : Sp := fun vs H Q _ => ∃ (r : Addr) (k l : Nat), vs = [.ref r, .int (k : Int), .int (l : Int)] ∧ H r = some (.lst (wordsV k l)) ∧ 1 ≤ k ∧ k ≤ 4 ∧ l ≤ 200 ∧ k ^ l ≤ 5000 ∧ Q (.bl true) H
def spLaw (K : PySem.W.Frag) : Sp := fun vs H Q _ => ∃ (a : Addr) (ns : List Int), vs = [.ref a] ∧ SqL K H a (ns.map V.int) ∧ ns.length ≤ 63 ∧ ∀ H', Q (.bl true) H'
theorem words_at {k l t : Nat} (h : t < k ^ l) : (wordsV k l)[t]? = some (.str (cs (WD.dig k l t))) := by
  unfold wordsV
  rw [List.getElem?_map, WD.all_at h]
  rfl
theorem words_len {k l : Nat} : (wordsV k l).length = k ^ l := by
  unfold wordsV
  rw [List.length_map, WD.all_len]
theorem bef_self {x : Str} : bef x x = false := by
  unfold bef
  rw [if_pos rfl]
  exact decide_eq_false (List.lt_irrefl _)
section
variable {P : Program} {w : World} {K : PySem.W.Frag} {mg : Str → Option Value} {base : Heap}
theorem ok_li {f fW fT fC : Addr} {fd dW dT dC : FuncData} (F : Fun K "_law_listed" "_law_listed" sListed f fd) (T : TxtL mg) (ml : mg "list" = none) (ms : mg "str" = none)
    (cWa : CalN P w K mg base "_law_word_at" 1 ["letters", "length", "place"] spWa fW dW) (cTo : CalN P w K mg base "_law_told" 1 ["actual", "due"] spTold fT dT) (cCb : CalN P w K mg base "comes_before" 1 ["one", "other"] spCb fC dC) :
    FnOk P w K mg base CX0 2 f fd ["found", "letters", "length"] (spLi K) := by
  refine F.ok scLi (fun vs H Q E h => ?_) (fun cdv A outer s H vs Q E hr h => ?_)
  · obtain ⟨r, k, l, rfl, _⟩ := h
    rfl
  · obtain ⟨r, k, l, rfl, hH, k1, k4, l200, many, kk⟩ := h
    have hr1 : Room 1 _ := hr.mono (by decide)
    refine ⟨_, pss_cons (ps_set (i := 3) scLi.nd rfl (.inl rfl) pe_int)
      (pss_cons (ps_for PassesOwn.never rfl (pi_range1 (by rfl) T.range (pa_cons (pv 2) pa_nil)) (pg_name (i := 4) scLi.nd rfl (.inl rfl))
        (pss_one (ps_set (i := 3) scLi.nd rfl (.inl rfl) (pe_op op_mul (pv 3) (pv 1)))))
      (pss_cons (ps_if (PW.pt (pw_or (pt_not (pt_val (pe_callB call_isi (by rfl) T.isi (by decide +kernel) (pa_cons (pv 0) (pa_cons (pe_bltn (v := .ty "list") (by rfl) ml (by decide +kernel) rfl) pa_nil))))) (pw_or1 (pt_cmpR op_ne (pe_callB call_len_seq (by rfl) T.len PySem.boot_len (pa_cons (pv 0) pa_nil)) (pv 3) (nomark _)))))
        (pss_one ps_never)
        pss_nil)
      (pss_cons (ps_for PassesOwn.never rfl (pi_range1 (by rfl) T.range (pa_cons (pv 3) pa_nil)) (pg_name (i := 5) scLi.nd rfl (.inl rfl))
        (pss_cons (ps_if (PW.pt (pw_or (pt_not (pt_val (pe_callB call_isi (by rfl) T.isi (by decide +kernel) (pa_cons (pe_ix ix_list (pv 0) (pv 5) (fun _ _ => rfl)) (pa_cons (pe_bltn (v := .ty "str") (by rfl) ms (by decide +kernel) rfl) pa_nil))))) (pw_or1 (pt_cmpR op_ne (pe_ix ix_list (pv 0) (pv 5) (fun _ _ => rfl)) (pe_call cWa.G hr1 rfl cWa.m cWa.kp cWa.b .nil pass0 (pa_cons (pv 1) (pa_cons (pv 2) (pa_cons (pv 5) pa_nil)))) (nomark _)))))
          (pss_one ps_never)
          pss_nil)
        (pss_one (ps_if (PW.pt (pw_and (pt_cmpR op_gt (pv 5) pe_int (nomark _)) (pw_and1 (pt_not (pt_val (pe_call cTo.G hr1 rfl cTo.m cTo.kp cTo.b .nil pass0 (pa_cons (pe_call cCb.G hr1 rfl cCb.m cCb.kp cCb.b .nil pass0 (pa_cons (pe_ix ix_list (pv 0) (pe_op op_sub (pv 5) pe_int) (fun _ _ => rfl)) (pa_cons (pe_ix ix_list (pv 0) (pv 5) (fun _ _ => rfl)) pa_nil))) (pa_cons pe_bl pa_nil))))))))
          (pss_one ps_never)
          pss_nil))))
      (pss_one (ps_ret pe_bl))))), ?_⟩
    refine ⟨_, rfl, _, rfl, by omega, by omega, for_range (n := l) (fun i σ H' => ∃ (y : Option V), σ = [some (.ref r), some (.int (k : Int)), some (.int (l : Int)), some (.int ((k ^ i : Nat) : Int)), y, none] ∧ H' = H)
      ⟨none, rfl, rfl⟩ ?_ ?_⟩
    · rintro i σ H' hi ⟨y, rfl, rfl⟩
      have le : k ^ i ≤ 5000 := Nat.le_trans (Nat.pow_le_pow_right k1 (Nat.le_of_lt hi)) many
      have e : ((k ^ i : Nat) : Int) * (k : Int) = ((k ^ (i + 1) : Nat) : Int) := by
        rw [Nat.pow_succ, Int.natCast_mul]
      refine ⟨_, rfl, _, rfl, _, _, rfl, rfl, .inl ⟨by omega, by omega⟩, some (.int (0 + (i : Int))), ?_, rfl⟩
      show [_, _, _, some (V.int (((k ^ i : Nat) : Int) * (k : Int))), _, _] = _
      rw [e]
    · rintro σ H' ⟨y, rfl, rfl⟩
      generalize hM : k ^ l = M at many
      refine ⟨_, rfl, _, _, _, _, true, rfl, .ty _, .base (.lst hH), kit_ty (by decide +kernel), true, rfl, ?_⟩
      refine iteF ?_
      refine ⟨_, rfl, r, _, rfl, .inl (SqL.of hH), _, rfl, rfl, _, rfl, ?_⟩
      rw [words_len, hM]
      refine iteF' (by rw [decide_eq_true rfl]; rfl) ?_
      refine ⟨_, rfl, _, rfl, by omega, by omega, for_range (n := M) (fun i σ H1 => ∃ (y z : Option V), σ = [some (.ref r), some (.int (k : Int)), some (.int (l : Int)), some (.int (M : Int)), y, z] ∧ H1 = H')
        ⟨_, none, rfl, rfl⟩ ?_ ?_⟩
      · rintro i σ H1 hi ⟨y, z, rfl, rfl⟩
        have at_i : atI (wordsV k l) (0 + (i : Int)) = some (.str (cs (WD.dig k l i))) := at_of (Int.zero_add _) (words_at (by rw [hM]; exact hi))
        have lw : ∀ {t : Nat}, (cs (WD.dig k l t)).length ≤ sizeLine := fun {t} => by
          rw [cs_len, WD.dig_len]
          exact Nat.le_of_lt (small1000 (by omega))
        refine ⟨_, rfl, _, rfl, r, _, _, _, rfl, rfl, SqL.of hH, at_i, _, _, _, _, true, rfl, .ty _, .base (.str _), kit_ty (by decide +kernel), true, rfl, ?_⟩
        refine iteF ?_
        refine ⟨_, rfl, _, rfl, r, _, _, _, rfl, rfl, SqL.of hH, at_i, _, rfl, _, rfl, _, rfl, k, l, i, (by rw [Int.zero_add]; rfl), k1, k4, l200, rfl, _, rfl, ?_⟩
        refine iteF' (by rw [decide_eq_true rfl]; rfl) ?_
        refine ⟨_, rfl, _, _, rfl, rfl, _, rfl, ite2 (fun z => ?_) (fun _ => ⟨_, _, rfl, rfl⟩)⟩
        have z := of_decide_eq_true z
        have at_p : atI (wordsV k l) (0 + (i : Int) - 1) = some (.str (cs (WD.dig k l (i - 1)))) := at_of (j := i - 1) (by omega) (words_at (by rw [hM]; omega))
        refine ⟨_, rfl, _, rfl, _, _, rfl, rfl, r, _, _, _, rfl, rfl, SqL.of hH, at_p, _, rfl, _, rfl, r, _, _, _, rfl, rfl, SqL.of hH, at_i, _, _, rfl, lw, lw, ?_⟩
        have b : bef (cs (WD.dig k l (i - 1))) (cs (WD.dig k l i)) = true := by
          unfold bef
          rw [if_pos (by rw [cs_len, cs_len, WD.dig_len, WD.dig_len])]
          refine decide_eq_true ?_
          have := WD.dig_lt (k := k) k1 (l := l) (s := i - 1) (t := i) (by omega) (by rw [hM]; exact hi)
          simpa [cs] using this
        rw [b]
        refine ⟨true, rfl, true, rfl, ?_⟩
        refine iteF ?_
        exact ⟨_, _, rfl, rfl⟩
      · rintro σ H1 ⟨y, z, rfl, rfl⟩
        exact kk
theorem four_lim (k : Nat) (k1 : 1 ≤ k) (k4 : k ≤ 4) : ∃ m : Int, atI [V.int 201, V.int 13, V.int 8, V.int 7] ((k : Int) - 1) = some (.int m) ∧ 1 ≤ m ∧ m ≤ 201 ∧ ∀ l : Nat, (l : Int) < m → k ^ l ≤ 5000 := by
  have : k = 1 ∨ k = 2 ∨ k = 3 ∨ k = 4 := by omega
  rcases this with rfl | rfl | rfl | rfl
  · exact ⟨201, rfl, by decide, by decide, fun l _ => by rw [Nat.one_pow]; decide⟩
  · exact ⟨13, rfl, by decide, by decide, fun l h => Nat.le_trans (Nat.pow_le_pow_right (by decide) (show l ≤ 12 by omega)) (by decide)⟩
  · exact ⟨8, rfl, by decide, by decide, fun l h => Nat.le_trans (Nat.pow_le_pow_right (by decide) (show l ≤ 7 by omega)) (by decide)⟩
  · exact ⟨7, rfl, by decide, by decide, fun l h => Nat.le_trans (Nat.pow_le_pow_right (by decide) (show l ≤ 6 by omega)) (by decide)⟩
theorem ok_law {f fFe fDr fWo fSe fTo fCb fBe fOf fLi : Addr} {fd dFe dDr dWo dSe dTo dCb dBe dOf dLi : FuncData} (F : Fun K "law" "law" sLaw f fd) (T : TxtL mg)
    (cFe : CalN P w K mg base "_law_feed" 1 ["script"] (spFeed K) fFe dFe) (cDr : CalN P w K mg base "_law_draw" 1 ["feed", "limit"] spDraw fDr dDr) (cWo : CalN P w K mg base "_law_word" 2 ["feed", "letters", "length"] spWo fWo dWo)
    (cSe : CalN P w K mg base "_law_second" 3 ["feed", "one", "limit"] spSe fSe dSe) (cTo : CalN P w K mg base "_law_told" 1 ["actual", "due"] spTold fTo dTo) (cCb : CalN P w K mg base "comes_before" 1 ["one", "other"] spCb fCb dCb)
    (cBe : CalN P w K mg base "_law_before" 1 ["one", "two"] spBe fBe dBe) (cOf : CalN P w K mg base "words_of" 2 ["letters", "length"] spOf fOf dOf) (cLi : CalN P w K mg base "_law_listed" 2 ["found", "letters", "length"] (spLi K) fLi dLi) :
    FnOk P w K mg base CX0 4 f fd ["script"] (spLaw K) := by
  refine F.ok scL (fun vs H Q E h => ?_) (fun cdv A outer s H vs Q E hr h => ?_)
  · obtain ⟨a, ns, rfl, _⟩ := h
    rfl
  · obtain ⟨a, ns, rfl, hS, hl, k⟩ := h
    have hr1 : Room 1 _ := hr.mono (by decide)
    have hr2 : Room 2 _ := hr.mono (by decide)
    have hr3 : Room 3 _ := hr.mono (by decide)
    refine ⟨_, pss_cons (ps_set (i := 1) scL.nd rfl (.inl rfl) (pe_call cFe.G hr1 rfl cFe.m cFe.kp cFe.b .nil pass0 (pa_cons (pv 0) pa_nil)))
      (pss_cons (ps_set (i := 2) scL.nd rfl (.inl rfl) pe_int)
      (C8.pss_cut (ps_if (pt_cmpR op_eq (pe_call cDr.G hr1 rfl cDr.m cDr.kp cDr.b .nil pass0 (pa_cons (pv 1) (pa_cons pe_int pa_nil))) pe_int (nomark _))
        (pss_one (ps_set (i := 2) scL.nd rfl (.inl rfl) pe_int))
        pss_nil)
      (pss_cons (ps_set (i := 3) scL.nd rfl (.inl rfl) (pe_call cWo.G hr2 rfl cWo.m cWo.kp cWo.b .nil pass0 (pa_cons (pv 1) (pa_cons pe_int (pa_cons (pe_call cDr.G hr1 rfl cDr.m cDr.kp cDr.b .nil pass0 (pa_cons (pv 1) (pa_cons (pv 2) pa_nil))) pa_nil)))))
      (pss_cons (ps_set (i := 4) scL.nd rfl (.inl rfl) (pe_call cSe.G hr3 rfl cSe.m cSe.kp cSe.b .nil pass0 (pa_cons (pv 1) (pa_cons (pv 3) (pa_cons (pv 2) pa_nil)))))
      (pss_cons (ps_if (pt_not (pt_val (pe_call cTo.G hr1 rfl cTo.m cTo.kp cTo.b .nil pass0 (pa_cons (pe_call cCb.G hr1 rfl cCb.m cCb.kp cCb.b .nil pass0 (pa_cons (pv 3) (pa_cons (pv 4) pa_nil))) (pa_cons (pe_call cBe.G hr1 rfl cBe.m cBe.kp cBe.b .nil pass0 (pa_cons (pv 3) (pa_cons (pv 4) pa_nil))) pa_nil)))))
        (pss_one ps_never)
        pss_nil)
      (pss_cons (ps_if (PW.pt (pw_or (pt_not (pt_val (pe_call cTo.G hr1 rfl cTo.m cTo.kp cTo.b .nil pass0 (pa_cons (pe_call cCb.G hr1 rfl cCb.m cCb.kp cCb.b .nil pass0 (pa_cons (pv 4) (pa_cons (pv 3) pa_nil))) (pa_cons (pe_call cBe.G hr1 rfl cBe.m cBe.kp cBe.b .nil pass0 (pa_cons (pv 4) (pa_cons (pv 3) pa_nil))) pa_nil))))) (pw_or1 (pt_not (pt_val (pe_call cTo.G hr1 rfl cTo.m cTo.kp cTo.b .nil pass0 (pa_cons (pe_call cCb.G hr1 rfl cCb.m cCb.kp cCb.b .nil pass0 (pa_cons (pv 3) (pa_cons (pv 3) pa_nil))) (pa_cons pe_bl pa_nil))))))))
        (pss_one ps_never)
        pss_nil)
      (pss_cons (ps_set (i := 5) scL.nd rfl (.inl rfl) (pe_op op_add pe_int (pe_call cDr.G hr1 rfl cDr.m cDr.kp cDr.b .nil pass0 (pa_cons (pv 1) (pa_cons pe_int pa_nil)))))
      (pss_cons (ps_set (i := 6) scL.nd rfl (.inl rfl) (pe_call cDr.G hr1 rfl cDr.m cDr.kp cDr.b .nil pass0 (pa_cons (pv 1) (pa_cons pe_int pa_nil))))
      (C8.pss_cut (ps_if (pt_cmpR op_eq (pe_call cDr.G hr1 rfl cDr.m cDr.kp cDr.b .nil pass0 (pa_cons (pv 1) (pa_cons pe_int pa_nil))) pe_int (nomark _))
        (pss_one (ps_set (i := 6) scL.nd rfl (.inl rfl) (pe_call cDr.G hr1 rfl cDr.m cDr.kp cDr.b .nil pass0 (pa_cons (pv 1) (pa_cons (pe_ix ix_list (pe_lst (pa_cons pe_int (pa_cons pe_int (pa_cons pe_int (pa_cons pe_int pa_nil))))) (pe_op op_sub (pv 5) pe_int) (fun _ _ => rfl)) pa_nil)))))
        pss_nil)
      (pss_cons (ps_set (i := 7) scL.nd rfl (.inl rfl) (pe_call cOf.G hr2 rfl cOf.m cOf.kp cOf.b .nil pass0 (pa_cons (pv 5) (pa_cons (pv 6) pa_nil))))
      (pss_cons (ps_if (pt_not (pt_val (pe_call cLi.G hr2 rfl cLi.m cLi.kp cLi.b .nil pass0 (pa_cons (pv 7) (pa_cons (pv 5) (pa_cons (pv 6) pa_nil))))))
        (pss_one ps_never)
        pss_nil)
      (pss_cons (ps_asg pe_str (pg_sub (pv 7) pe_int set_list))
      (pss_cons (ps_expr (pe_bm PySem.F.plainAttrs_list PySem.F.slot_list_append PySem.F.type_list_append mt_append (pv 7) (pa_cons pe_str pa_nil)))
      (pss_one (ps_ret (pe_call cLi.G hr2 rfl cLi.m cLi.kp cLi.b .nil pass0 (pa_cons (pe_call cOf.G hr2 rfl cOf.m cOf.kp cOf.b .nil pass0 (pa_cons (pv 5) (pa_cons (pv 6) pa_nil))) (pa_cons (pv 5) (pa_cons (pv 6) pa_nil))))))))))))))))))), ?_⟩
    refine ⟨_, rfl, a, ns, rfl, hS, hl, fun fe cl H1 s1 nfe ncl f1 => ?_⟩
    refine ⟨fun σ' H' => ∃ m : Int, σ' = [some (.ref a), some (.ref fe), some (.int m), none, none, none, none, none] ∧ FeedAt H' fe cl ∧ (m = 6 ∨ m = 201), ?_, ?_⟩
    · refine ⟨_, rfl, fe, cl, 8, rfl, f1, by decide, by decide, fun r H2 r0 r1 f2 b2 => ?_⟩
      exact ⟨rfl, _, rfl, ite2 (fun _ => ⟨201, rfl, f2, .inr rfl⟩) (fun _ => ⟨6, rfl, f2, .inl rfl⟩)⟩
    rintro σ' H2 ⟨m, rfl, f2, hm⟩
    have m1 : 1 ≤ m := by omega
    have m2 : m ≤ 201 := by omega
    refine ⟨_, rfl, _, rfl, _, rfl, fe, cl, m, rfl, f2, by omega, by omega, fun r H3 r0 r1 f3 b3 => ?_⟩
    refine ⟨fe, cl, 4, r.toNat, (by rw [Int.toNat_of_nonneg r0]; rfl), f3, by decide, by decide, by omega, fun u H4 ul hu f4 b4 => ?_⟩
    have hu : Lt4 u := hu
    have lu : u.length ≤ 200 := by omega
    refine ⟨_, rfl, _, rfl, _, rfl, fe, cl, u, m.toNat, (by rw [Int.toNat_of_nonneg (by omega)]; rfl), f4, hu, lu, by omega, by omega, fun v H5 hv lv f5 b5 => ?_⟩
    have su : (wd u).length ≤ sizeLine := by rw [wd_len]; exact Nat.le_of_lt (small1000 (by omega))
    have sv : (wd v).length ≤ sizeLine := by rw [wd_len]; exact Nat.le_of_lt (small1000 lv)
    refine ⟨_, rfl, _, rfl, _, _, rfl, su, sv, _, rfl, _, rfl, u, v, rfl, hu, hv, by omega, lv, _, rfl, true, rfl, ?_⟩
    refine iteF ?_
    refine ⟨_, rfl, _, rfl, _, _, rfl, sv, su, _, rfl, _, rfl, v, u, rfl, hv, hu, lv, by omega, _, rfl, true, rfl, ?_⟩
    refine iteF ?_
    refine ⟨_, rfl, _, rfl, _, _, rfl, su, su, ?_⟩
    rw [bef_self]
    refine ⟨false, rfl, true, rfl, ?_⟩
    refine iteF ?_
    refine ⟨_, rfl, fe, cl, 4, rfl, f5, by decide, by decide, fun q H6 q0 q1 f6 b6 => ⟨_, _, rfl, rfl, ?_⟩⟩
    obtain ⟨kk, ek⟩ : ∃ kk : Nat, (1 : Int) + q = (kk : Int) := ⟨(1 + q).toNat, by omega⟩
    have k1 : 1 ≤ kk := by omega
    have k4 : kk ≤ 4 := by omega
    show gName 5 (V.int (1 + q)) _ _ _
    rw [ek]
    refine ⟨_, rfl, fe, cl, 4, rfl, f6, by decide, by decide, fun l0 H7 l00 l01 f7 b7 => ?_⟩
    refine ⟨fun σ' H' => ∃ l : Nat, σ' = [some (.ref a), some (.ref fe), some (.int m), some (.str (wd u)), some (.str (wd v)), some (.int (kk : Int)), some (.int (l : Int)), none] ∧ l ≤ 200 ∧ kk ^ l ≤ 5000, ?_, ?_⟩
    · have base : ∃ l : Nat, ([some (.ref a), some (.ref fe), some (.int m), some (.str (wd u)), some (.str (wd v)), some (.int (kk : Int)), some (.int l0), none] : St) = [some (.ref a), some (.ref fe), some (.int m), some (.str (wd u)), some (.str (wd v)), some (.int (kk : Int)), some (.int (l : Int)), none] ∧ l ≤ 200 ∧ kk ^ l ≤ 5000 := by
        refine ⟨l0.toNat, by rw [Int.toNat_of_nonneg l00], by omega, ?_⟩
        have h1 : kk ^ l0.toNat ≤ kk ^ 3 := Nat.pow_le_pow_right k1 (by omega)
        have h2 : kk ^ 3 ≤ 4 ^ 3 := Nat.pow_le_pow_left k4 3
        exact Nat.le_trans (Nat.le_trans h1 h2) (by decide)
      refine ⟨_, rfl, fe, cl, 8, rfl, f7, by decide, by decide, fun r8 H8 r80 r81 f8 b8 => ?_⟩
      refine ⟨rfl, _, rfl, ite2 (fun _ => ?_) (fun _ => base)⟩
      obtain ⟨lm, hm1, hm2, hm3, hm4⟩ := four_lim kk k1 k4
      refine ⟨_, rfl, (by show 4 ≤ sizeLine; decide), fun L nL => ?_⟩
      refine ⟨_, rfl, _, _, rfl, rfl, L, _, _, _, rfl, rfl, SqL.of upd_same, hm1, fe, cl, lm, rfl, f8.same (Same.upd nL), by omega, by omega, fun r9 H9 r90 r91 f9 b9 => ?_⟩
      exact ⟨r9.toNat, by rw [Int.toNat_of_nonneg r90]; rfl, by omega, hm4 _ (by omega)⟩
    rintro σ' H8 ⟨l, rfl, l200, many⟩
    refine ⟨_, rfl, _, rfl, kk, l, rfl, k1, k4, l200, many, fun r H9 s9 nr hr9 => ?_⟩
    refine ⟨_, rfl, _, rfl, _, rfl, r, kk, l, rfl, hr9, k1, k4, l200, many, true, rfl, ?_⟩
    refine iteF ?_
    have lenp : 1 ≤ kk ^ l := Nat.pow_pos (by omega)
    refine ⟨_, rfl, r, _, _, 0, rfl, rfl, hr9, (by rw [words_len]; unfold ixN; rw [if_pos (by omega), if_pos (by omega)]; rfl), ?_⟩
    refine ⟨_, rfl, .inl ⟨rfl, _, SqL.of upd_same⟩, r, _, _, rfl, rfl, upd_same, ?_, ?_⟩
    · rw [List.length_set, words_len]
      exact Nat.lt_of_le_of_lt many (by decide)
    refine ⟨_, rfl, _, rfl, kk, l, rfl, k1, k4, l200, many, fun r2 H10 s10 nr2 hr10 => ?_⟩
    exact ⟨_, rfl, _, rfl, r2, kk, l, rfl, hr10, k1, k4, l200, many, k _⟩
end
end RX

set_option Elab.async false
set_option maxRecDepth 100000
namespace RX
open PySem L2

set_option maxHeartbeats 0 in
theorem all_mk {l : PySem.W.OpenLaw} {w : World} {K : PySem.W.Frag} {h : Heap} {mg : Str → Option Value} {fa fCb fOf fAl fFe fDr fWo fBe fTo fSe fWa fLi fL : Addr} (X : K.In h) (G : h.Ns mainGlobals mg) (hfa : mg "law" = some (.ref fa))
    {odCb odOf odAl odFe odDr odWo odBe odTo odSe odWa odLi odL anCb anOf anAl anFe anDr anWo anBe anTo anSe anWa anLi anL : Option Addr} {slCb slOf slAl slFe slDr slWo slBe slTo slSe slWa slLi slL : Array (Option Value)} {ocCb kVCb dcCb pmCb cdCb ctCb ocOf kVOf dcOf pmOf cdOf ctOf ocAl kVAl dcAl pmAl cdAl ctAl ocFe kVFe dcFe pmFe cdFe ctFe ocDr kVDr dcDr pmDr cdDr ctDr ocWo kVWo dcWo pmWo cdWo ctWo ocBe kVBe dcBe pmBe cdBe ctBe ocTo kVTo dcTo pmTo cdTo ctTo ocSe kVSe dcSe pmSe cdSe ctSe ocWa kVWa dcWa pmWa cdWa ctWa ocLi kVLi dcLi pmLi cdLi ctLi ocL kVL dcL pmL cdL ctL : Value} {tkL : Tok}
    (aLT : PySem.W.nsIn K mainGlobals "LETTERS" = some (some (.str "abcd" tkL)))
    (aCb : PySem.W.nsIn K mainGlobals "comes_before" = some (some (.ref fCb)))
    (lCb : K.lookup fCb = some ⟨ocCb, odCb, .func (PySem.W.fnOf "comes_before" "comes_before" (defArgs sBefore) (defBody sBefore) (defScope sBefore) .none kVCb dcCb pmCb anCb cdCb ctCb), slCb⟩)
    (cCb : PySem.W.codeIn K cdCb "comes_before" = true)
    (kCb : PySem.W.keepIn K (.ref fCb) = true)
    (aOf : PySem.W.nsIn K mainGlobals "words_of" = some (some (.ref fOf)))
    (lOf : K.lookup fOf = some ⟨ocOf, odOf, .func (PySem.W.fnOf "words_of" "words_of" (defArgs sWordsOf) (defBody sWordsOf) (defScope sWordsOf) .none kVOf dcOf pmOf anOf cdOf ctOf), slOf⟩)
    (cOf : PySem.W.codeIn K cdOf "words_of" = true)
    (kOf : PySem.W.keepIn K (.ref fOf) = true)
    (aAl : PySem.W.nsIn K mainGlobals "alphabet" = some (some (.ref fAl)))
    (lAl : K.lookup fAl = some ⟨ocAl, odAl, .func (PySem.W.fnOf "alphabet" "alphabet" (defArgs sAlpha) (defBody sAlpha) (defScope sAlpha) .none kVAl dcAl pmAl anAl cdAl ctAl), slAl⟩)
    (cAl : PySem.W.codeIn K cdAl "alphabet" = true)
    (kAl : PySem.W.keepIn K (.ref fAl) = true)
    (aFe : PySem.W.nsIn K mainGlobals "_law_feed" = some (some (.ref fFe)))
    (lFe : K.lookup fFe = some ⟨ocFe, odFe, .func (PySem.W.fnOf "_law_feed" "_law_feed" (defArgs sFeed) (defBody sFeed) (defScope sFeed) .none kVFe dcFe pmFe anFe cdFe ctFe), slFe⟩)
    (cFe : PySem.W.codeIn K cdFe "_law_feed" = true)
    (kFe : PySem.W.keepIn K (.ref fFe) = true)
    (aDr : PySem.W.nsIn K mainGlobals "_law_draw" = some (some (.ref fDr)))
    (lDr : K.lookup fDr = some ⟨ocDr, odDr, .func (PySem.W.fnOf "_law_draw" "_law_draw" (defArgs sDraw) (defBody sDraw) (defScope sDraw) .none kVDr dcDr pmDr anDr cdDr ctDr), slDr⟩)
    (cDr : PySem.W.codeIn K cdDr "_law_draw" = true)
    (kDr : PySem.W.keepIn K (.ref fDr) = true)
    (aWo : PySem.W.nsIn K mainGlobals "_law_word" = some (some (.ref fWo)))
    (lWo : K.lookup fWo = some ⟨ocWo, odWo, .func (PySem.W.fnOf "_law_word" "_law_word" (defArgs sWord) (defBody sWord) (defScope sWord) .none kVWo dcWo pmWo anWo cdWo ctWo), slWo⟩)
    (cWo : PySem.W.codeIn K cdWo "_law_word" = true)
    (kWo : PySem.W.keepIn K (.ref fWo) = true)
    (aBe : PySem.W.nsIn K mainGlobals "_law_before" = some (some (.ref fBe)))
    (lBe : K.lookup fBe = some ⟨ocBe, odBe, .func (PySem.W.fnOf "_law_before" "_law_before" (defArgs sLBefore) (defBody sLBefore) (defScope sLBefore) .none kVBe dcBe pmBe anBe cdBe ctBe), slBe⟩)
    (cBe : PySem.W.codeIn K cdBe "_law_before" = true)
    (kBe : PySem.W.keepIn K (.ref fBe) = true)
    (aTo : PySem.W.nsIn K mainGlobals "_law_told" = some (some (.ref fTo)))
    (lTo : K.lookup fTo = some ⟨ocTo, odTo, .func (PySem.W.fnOf "_law_told" "_law_told" (defArgs sTold) (defBody sTold) (defScope sTold) .none kVTo dcTo pmTo anTo cdTo ctTo), slTo⟩)
    (cTo : PySem.W.codeIn K cdTo "_law_told" = true)
    (kTo : PySem.W.keepIn K (.ref fTo) = true)
    (aSe : PySem.W.nsIn K mainGlobals "_law_second" = some (some (.ref fSe)))
    (lSe : K.lookup fSe = some ⟨ocSe, odSe, .func (PySem.W.fnOf "_law_second" "_law_second" (defArgs sSecond) (defBody sSecond) (defScope sSecond) .none kVSe dcSe pmSe anSe cdSe ctSe), slSe⟩)
    (cSe : PySem.W.codeIn K cdSe "_law_second" = true)
    (kSe : PySem.W.keepIn K (.ref fSe) = true)
    (aWa : PySem.W.nsIn K mainGlobals "_law_word_at" = some (some (.ref fWa)))
    (lWa : K.lookup fWa = some ⟨ocWa, odWa, .func (PySem.W.fnOf "_law_word_at" "_law_word_at" (defArgs sWordAt) (defBody sWordAt) (defScope sWordAt) .none kVWa dcWa pmWa anWa cdWa ctWa), slWa⟩)
    (cWa : PySem.W.codeIn K cdWa "_law_word_at" = true)
    (kWa : PySem.W.keepIn K (.ref fWa) = true)
    (aLi : PySem.W.nsIn K mainGlobals "_law_listed" = some (some (.ref fLi)))
    (lLi : K.lookup fLi = some ⟨ocLi, odLi, .func (PySem.W.fnOf "_law_listed" "_law_listed" (defArgs sListed) (defBody sListed) (defScope sListed) .none kVLi dcLi pmLi anLi cdLi ctLi), slLi⟩)
    (cLi : PySem.W.codeIn K cdLi "_law_listed" = true)
    (kLi : PySem.W.keepIn K (.ref fLi) = true)
    (aL : PySem.W.nsIn K mainGlobals "law" = some (some (.ref fL)))
    (lL : K.lookup fL = some ⟨ocL, odL, .func (PySem.W.fnOf "law" "law" (defArgs sLaw) (defBody sLaw) (defScope sLaw) .none kVL dcL pmL anL cdL ctL), slL⟩)
    (cL : PySem.W.codeIn K cdL "law" = true)
    (kL : PySem.W.keepIn K (.ref fL) = true)
    (z_abs : PySem.W.nsIn K mainGlobals "abs" = some none)
    (z_len : PySem.W.nsIn K mainGlobals "len" = some none)
    (z_int : PySem.W.nsIn K mainGlobals "int" = some none)
    (z_max : PySem.W.nsIn K mainGlobals "max" = some none)
    (z_range : PySem.W.nsIn K mainGlobals "range" = some none)
    (z_isinstance : PySem.W.nsIn K mainGlobals "isinstance" = some none)
    (z_bool : PySem.W.nsIn K mainGlobals "bool" = some none)
    (z_list : PySem.W.nsIn K mainGlobals "list" = some none)
    (z_str : PySem.W.nsIn K mainGlobals "str" = some none)
    : ∃ fd : FuncData, (∀ (s : Shared) (v : Value), BindsTo s fd ⟨[v], []⟩ [("script", v)]) ∧ ∀ base : Heap, K.In base → base.Ns mainGlobals mg → FnOk l.prog w K mg base CX0 4 fa fd ["script"] (spLaw K) := by
  have e := hfa.symm.trans (PySem.W.mg_of X G aL)
  cases e
  have T : TxtL mg := ⟨PySem.W.mg_none_of X G z_abs, PySem.W.mg_none_of X G z_len, PySem.W.mg_none_of X G z_int, PySem.W.mg_none_of X G z_max, PySem.W.mg_none_of X G z_range, PySem.W.mg_none_of X G z_isinstance, PySem.W.mg_none_of X G z_bool⟩
  have FCb := fun_mk (st := sBefore) lCb cCb kCb
  have bCb := FCb.binds (ps := ["one", "other"]) fun _ _ _ _ _ _ us hl => match us, hl with | [_, _], _ => rfl
  have mCb := PySem.W.mg_of X G aCb
  have FOf := fun_mk (st := sWordsOf) lOf cOf kOf
  have bOf := FOf.binds (ps := ["letters", "length"]) fun _ _ _ _ _ _ us hl => match us, hl with | [_, _], _ => rfl
  have mOf := PySem.W.mg_of X G aOf
  have FAl := fun_mk (st := sAlpha) lAl cAl kAl
  have bAl := FAl.binds (ps := ["letters"]) fun _ _ _ _ _ _ us hl => match us, hl with | [_], _ => rfl
  have mAl := PySem.W.mg_of X G aAl
  have FFe := fun_mk (st := sFeed) lFe cFe kFe
  have bFe := FFe.binds (ps := ["script"]) fun _ _ _ _ _ _ us hl => match us, hl with | [_], _ => rfl
  have mFe := PySem.W.mg_of X G aFe
  have FDr := fun_mk (st := sDraw) lDr cDr kDr
  have bDr := FDr.binds (ps := ["feed", "limit"]) fun _ _ _ _ _ _ us hl => match us, hl with | [_, _], _ => rfl
  have mDr := PySem.W.mg_of X G aDr
  have FWo := fun_mk (st := sWord) lWo cWo kWo
  have bWo := FWo.binds (ps := ["feed", "letters", "length"]) fun _ _ _ _ _ _ us hl => match us, hl with | [_, _, _], _ => rfl
  have mWo := PySem.W.mg_of X G aWo
  have FBe := fun_mk (st := sLBefore) lBe cBe kBe
  have bBe := FBe.binds (ps := ["one", "two"]) fun _ _ _ _ _ _ us hl => match us, hl with | [_, _], _ => rfl
  have mBe := PySem.W.mg_of X G aBe
  have FTo := fun_mk (st := sTold) lTo cTo kTo
  have bTo := FTo.binds (ps := ["actual", "due"]) fun _ _ _ _ _ _ us hl => match us, hl with | [_, _], _ => rfl
  have mTo := PySem.W.mg_of X G aTo
  have FSe := fun_mk (st := sSecond) lSe cSe kSe
  have bSe := FSe.binds (ps := ["feed", "one", "limit"]) fun _ _ _ _ _ _ us hl => match us, hl with | [_, _, _], _ => rfl
  have mSe := PySem.W.mg_of X G aSe
  have FWa := fun_mk (st := sWordAt) lWa cWa kWa
  have bWa := FWa.binds (ps := ["letters", "length", "place"]) fun _ _ _ _ _ _ us hl => match us, hl with | [_, _, _], _ => rfl
  have mWa := PySem.W.mg_of X G aWa
  have FLi := fun_mk (st := sListed) lLi cLi kLi
  have bLi := FLi.binds (ps := ["found", "letters", "length"]) fun _ _ _ _ _ _ us hl => match us, hl with | [_, _, _], _ => rfl
  have mLi := PySem.W.mg_of X G aLi
  refine ⟨PySem.W.fnOf "law" "law" (defArgs sLaw) (defBody sLaw) (defScope sLaw) .none kVL dcL pmL anL cdL ctL, fun s v => .of_eq rfl, fun base _ _ => ?_⟩
  have ml := PySem.W.mg_none_of X G z_list
  have ms := PySem.W.mg_none_of X G z_str
  have cAl : CalN l.prog w K mg base "alphabet" 1 ["letters"] spAl fAl _ := ⟨ok_al FAl (PySem.W.mg_of X G aLT), mAl, kAl, bAl⟩
  have cCb : CalN l.prog w K mg base "comes_before" 1 ["one", "other"] spCb fCb _ := ⟨ok_cb FCb T, mCb, kCb, bCb⟩
  have cOf : CalN l.prog w K mg base "words_of" 2 ["letters", "length"] spOf fOf _ := ⟨ok_of FOf T cAl, mOf, kOf, bOf⟩
  have cFe : CalN l.prog w K mg base "_law_feed" 1 ["script"] (spFeed K) fFe _ := ⟨ok_feed FFe T, mFe, kFe, bFe⟩
  have cDr : CalN l.prog w K mg base "_law_draw" 1 ["feed", "limit"] spDraw fDr _ := ⟨ok_draw FDr T, mDr, kDr, bDr⟩
  have cWo : CalN l.prog w K mg base "_law_word" 2 ["feed", "letters", "length"] spWo fWo _ := ⟨ok_wo FWo T cDr, mWo, kWo, bWo⟩
  have cBe : CalN l.prog w K mg base "_law_before" 1 ["one", "two"] spBe fBe _ := ⟨ok_be FBe T, mBe, kBe, bBe⟩
  have cTo : CalN l.prog w K mg base "_law_told" 1 ["actual", "due"] spTold fTo _ := ⟨ok_told FTo T, mTo, kTo, bTo⟩
  have cSe : CalN l.prog w K mg base "_law_second" 3 ["feed", "one", "limit"] spSe fSe _ := ⟨ok_se FSe T cDr cWo, mSe, kSe, bSe⟩
  have cWa : CalN l.prog w K mg base "_law_word_at" 1 ["letters", "length", "place"] spWa fWa _ := ⟨ok_wa FWa T, mWa, kWa, bWa⟩
  have cLi : CalN l.prog w K mg base "_law_listed" 2 ["found", "letters", "length"] (spLi K) fLi _ := ⟨ok_li FLi T ml ms cWa cTo cCb, mLi, kLi, bLi⟩
  exact ok_law (fun_mk (st := sLaw) lL cL kL) T cFe cDr cWo cSe cTo cCb cBe cOf cLi
theorem walk {l : PySem.W.OpenLaw} {q : Program} {loose : List Str} {XP : (Str → Option Value) → Heap → Prop} {YP : World → Heap → Prop} {d : DefRec} {K : Params → PySem.W.Frag} (hn : l.most = some 63) (hdf : d.params.defaults = [])
    (hY : ∀ (w : World) (h : Heap), YP w h → (K w.params).In h)
    (F : ∀ (w : World) (mg : Str → Option Value) (fa : Addr) (h : Heap), (K w.params).In h → h.Ns mainGlobals mg → mg d.name = some (.ref fa) →
      ∃ fd : FuncData, (∀ (s : Shared) (u : Value), BindsTo s fd ⟨[u], []⟩ [("script", u)]) ∧ ∀ base : Heap, (K w.params).In base → base.Ns mainGlobals mg → FnOk l.prog w (K w.params) mg base CX0 4 fa fd ["script"] (spLaw (K w.params))) :
    PySem.W.WalkO q loose XP YP l.row.toRowW d [] (fun f vs => PySem.call f vs) :=
  L2.walk_of (n := 63) (k := 4) (x := "script") (CX := fun _ => CX0) (sp := fun w => spLaw (K w.params)) hn (by decide) hdf ⟨rfl, by decide, by decide⟩ hY F (fun _ _ a ns hl _ hS => ⟨a, ns, rfl, hS, hl, fun _ => rfl⟩) fun _ _ _ _ _ z => z
end RX

set_option Elab.async false

open PySem PySem.W PyProof.Rows in
set_option maxRecDepth 100000 in
set_option maxHeartbeats 0 in
theorem PySem.Challenge.cw_wordworth_k10_words_holds : PySem.Challenge.rw_wordworth_k10_words.Holds := by
  w_on; o_law; k_head; (case hw => w_witness2)
  k_fill
  refine RX.walk (l := PySem.Challenge.rw_wordworth_k10_words) rfl rfl (fun w h Y => PySem.W.kIn_of Y) ?F
  case F =>
    intro w mg fa h KX G hmg
    refine' RX.all_mk KX G hmg ?aLT ?aCb ?lCb ?cCb ?kCb ?aOf ?lOf ?cOf ?kOf ?aAl ?lAl ?cAl ?kAl ?aFe ?lFe ?cFe ?kFe ?aDr ?lDr ?cDr ?kDr ?aWo ?lWo ?cWo ?kWo ?aBe ?lBe ?cBe ?kBe ?aTo ?lTo ?cTo ?kTo ?aSe ?lSe ?cSe ?kSe ?aWa ?lWa ?cWa ?kWa ?aLi ?lLi ?cLi ?kLi ?aL ?lL ?cL ?kL ?z_abs ?z_len ?z_int ?z_max ?z_range ?z_isinstance ?z_bool ?z_list ?z_str
    (case aLT => k_is)
    (case aCb => k_is)
    (case lCb => k_is)
    (case cCb => k_is)
    (case kCb => k_is)
    (case aOf => k_is)
    (case lOf => k_is)
    (case cOf => k_is)
    (case kOf => k_is)
    (case aAl => k_is)
    (case lAl => k_is)
    (case cAl => k_is)
    (case kAl => k_is)
    (case aFe => k_is)
    (case lFe => k_is)
    (case cFe => k_is)
    (case kFe => k_is)
    (case aDr => k_is)
    (case lDr => k_is)
    (case cDr => k_is)
    (case kDr => k_is)
    (case aWo => k_is)
    (case lWo => k_is)
    (case cWo => k_is)
    (case kWo => k_is)
    (case aBe => k_is)
    (case lBe => k_is)
    (case cBe => k_is)
    (case kBe => k_is)
    (case aTo => k_is)
    (case lTo => k_is)
    (case cTo => k_is)
    (case kTo => k_is)
    (case aSe => k_is)
    (case lSe => k_is)
    (case cSe => k_is)
    (case kSe => k_is)
    (case aWa => k_is)
    (case lWa => k_is)
    (case cWa => k_is)
    (case kWa => k_is)
    (case aLi => k_is)
    (case lLi => k_is)
    (case cLi => k_is)
    (case kLi => k_is)
    (case aL => k_is)
    (case lL => k_is)
    (case cL => k_is)
    (case kL => k_is)
    (case z_abs => k_is)
    (case z_len => k_is)
    (case z_int => k_is)
    (case z_max => k_is)
    (case z_range => k_is)
    (case z_isinstance => k_is)
    (case z_bool => k_is)
    (case z_list => k_is)
    (case z_str => k_is)

