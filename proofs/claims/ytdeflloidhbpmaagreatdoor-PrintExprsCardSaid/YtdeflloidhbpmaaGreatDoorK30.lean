/-
  What a program's statements look like: their expressions and the statements in their lists; so are all that the grammar makes.
  A statement's text, as words; the grammar makes the statement of it again.
  The grammar makes a statement of its words again.
  A program's words; the grammar makes the program of them again.
  Words and blanks laid one behind the other: the tokens of their bytes are the words.
-/
import Derived.Test.YtdeflloidhbpmaaGreatDoorK27
import Derived.Test.YtdeflloidhbpmaaGreatDoorK29
namespace Go.Proofs.YtdeflloidhbpmaaGreatDoor

def bareS (x : Sm) : Sm := { x with lo := 0, hi := 0 }
/-- So many statements, one behind the other: from so many expressions and statements on to so many. -/
def BL (P : Nat → Nat → Nat → Nat → Prop) : List Nat → Nat → Nat → Nat → Nat → Prop
  | [], m0, q0, m1, q1 => m0 = m1 ∧ q0 = q1
  | a :: r, m0, q0, m1, q1 => ∃ m, P m0 q0 a m ∧ BL P r m (a + 1) m1 q1
/-- The kinds of statements; P: what stands in their lists. -/
inductive SB (nm : List UInt8 → Prop) (nu : Nat → Prop) (E : List Ex) (P : Nat → Nat → Nat → Nat → Prop) (k : Nat) (x : Sm) (m0 q0 i m1 : Nat) : Prop where
  | var (a : Nat) : nm x.name → bareS x = { kind := 1, name := x.name, a := a } → Sh nm nu E (k + 1) m0 a → a + 1 = m1 → i = q0 → SB nm nu E P k x m0 q0 i m1
  | arr : nm x.name → nu x.num → bareS x = { kind := 2, name := x.name, num := x.num } → m0 = m1 → i = q0 → SB nm nu E P k x m0 q0 i m1
  | set (a : Nat) : nm x.name → bareS x = { kind := 3, name := x.name, a := a } → Sh nm nu E (k + 1) m0 a → a + 1 = m1 → i = q0 → SB nm nu E P k x m0 q0 i m1
  | put (a : Nat) : nm x.name → bareS x = { kind := 4, name := x.name, a := a, b := x.b } → Sh nm nu E (k + 1) m0 a → Sh nm nu E (k + 1) (a + 1) x.b → x.b + 1 = m1 → i = q0 → SB nm nu E P k x m0 q0 i m1
  | cond (a m q : Nat) : bareS x = { kind := 5, a := a, thn := x.thn, els := x.els } → Sh nm nu E (k + 1) m0 a → k ≠ 0 → BL P x.thn (a + 1) q0 m q → BL P x.els m q m1 i → SB nm nu E P k x m0 q0 i m1
  | loop (a : Nat) : bareS x = { kind := 6, a := a, thn := x.thn } → Sh nm nu E (k + 1) m0 a → k ≠ 0 → BL P x.thn (a + 1) q0 m1 i → SB nm nu E P k x m0 q0 i m1
  | jump : (x.kind = 7 ∨ x.kind = 8) → bareS x = { kind := x.kind } → m0 = m1 → i = q0 → SB nm nu E P k x m0 q0 i m1
  | ret0 : bareS x = { kind := 9, a := -1 } → m0 = m1 → i = q0 → SB nm nu E P k x m0 q0 i m1
  | ret (a : Nat) : bareS x = { kind := 9, a := a } → Sh nm nu E (k + 1) m0 a → a + 1 = m1 → i = q0 → SB nm nu E P k x m0 q0 i m1
  | print (a : Nat) : bareS x = { kind := 10, a := a } → Sh nm nu E (k + 1) m0 a → a + 1 = m1 → i = q0 → SB nm nu E P k x m0 q0 i m1
  | call (a : Nat) : bareS x = { kind := 11, a := a } → Sh nm nu E (k + 1) m0 a → (∃ y, E[a]? = some y ∧ y.kind = 6) → a + 1 = m1 → i = q0 → SB nm nu E P k x m0 q0 i m1
/-- A statement in a block that may be so deep. -/
def SSh (nm : List UInt8 → Prop) (nu : Nat → Prop) (E : List Ex) (S : List Sm) : Nat → Nat → Nat → Nat → Nat → Prop
  | 0, _, _, _, _ => False
  | k + 1, m0, q0, i, m1 => ∃ x, S[i]? = some x ∧ SB nm nu E (SSh nm nu E S k) k x m0 q0 i m1

section
variable {nm : List UInt8 → Prop} {nu : Nat → Prop}
theorem BL.mono {P Q : Nat → Nat → Nat → Nat → Prop} (h : ∀ m0 q0 i m1, P m0 q0 i m1 → Q m0 q0 i m1) : ∀ {l : List Nat} {m0 q0 m1 q1 : Nat}, BL P l m0 q0 m1 q1 → BL Q l m0 q0 m1 q1
  | [], _, _, _, _, hb => hb
  | _ :: _, _, _, _, _, ⟨m, h1, h2⟩ => ⟨m, h _ _ _ _ h1, h2.mono h⟩
theorem BL.snoc {P : Nat → Nat → Nat → Nat → Prop} : ∀ {l : List Nat} {m0 q0 m1 q1 a m2 : Nat}, BL P l m0 q0 m1 q1 → P m1 q1 a m2 → BL P (l ++ [a]) m0 q0 m2 (a + 1)
  | [], _, _, _, _, _, m2, ⟨rfl, rfl⟩, ha => ⟨m2, ha, rfl, rfl⟩
  | _ :: _, _, _, _, _, _, _, ⟨m, h1, h2⟩, ha => ⟨m, h1, h2.snoc ha⟩
theorem SB.mono {E E' : List Ex} (hE : E <+: E') {P Q : Nat → Nat → Nat → Nat → Prop} (h : ∀ m0 q0 i m1, P m0 q0 i m1 → Q m0 q0 i m1) {k : Nat} {x : Sm} {m0 q0 i m1 : Nat} (hs : SB nm nu E P k x m0 q0 i m1) : SB nm nu E' Q k x m0 q0 i m1 := by
  cases hs with
  | var a h1 h2 h3 h4 h5 => exact .var a h1 h2 (h3.mono hE) h4 h5
  | arr h1 h2 h3 h4 h5 => exact .arr h1 h2 h3 h4 h5
  | set a h1 h2 h3 h4 h5 => exact .set a h1 h2 (h3.mono hE) h4 h5
  | put a h1 h2 h3 h4 h5 h6 => exact .put a h1 h2 (h3.mono hE) (h4.mono hE) h5 h6
  | cond a m q h1 h2 h3 h4 h5 => exact .cond a m q h1 (h2.mono hE) h3 (h4.mono h) (h5.mono h)
  | loop a h1 h2 h3 h4 => exact .loop a h1 (h2.mono hE) h3 (h4.mono h)
  | jump h1 h2 h3 h4 => exact .jump h1 h2 h3 h4
  | ret0 h1 h2 h3 => exact .ret0 h1 h2 h3
  | ret a h1 h2 h3 h4 => exact .ret a h1 (h2.mono hE) h3 h4
  | print a h1 h2 h3 h4 => exact .print a h1 (h2.mono hE) h3 h4
  | call a h1 h2 h3 h4 h5 =>
    obtain ⟨y, y1, y2⟩ := h3
    exact .call a h1 (h2.mono hE) ⟨y, prefix_get hE y1, y2⟩ h4 h5
theorem SSh.mono {E E' : List Ex} (hE : E <+: E') {S S' : List Sm} (hS : S <+: S') : ∀ {k m0 q0 i m1 : Nat}, SSh nm nu E S k m0 q0 i m1 → SSh nm nu E' S' k m0 q0 i m1
  | 0, _, _, _, _, h => h
  | _ + 1, _, _, _, _, ⟨x, h1, h2⟩ => ⟨x, prefix_get hS h1, h2.mono hE fun _ _ _ _ h => SSh.mono hE hS h⟩

variable {T : List Tk}
/-- What parts of expressions leave of statements. -/
theorem next_st {s s1 : Sg} {a : List UInt8} (h : nextP T s = .ok a s1) : s1.st = s.st ∧ s1.fn = s.fn := by
  unfold nextP at h
  by_cases hm : 1000 < s.st.length
  · rw [if_pos hm] at h; cases h
  · rw [if_neg hm] at h
    injection h with h1 h2
    subst h2
    exact ⟨rfl, rfl⟩
/-- One leaves statements and functions as they are. -/
def Kst {α : Type} (x : Ps α) : Prop := ∀ s a s1, x s = .ok a s1 → s1.st = s.st ∧ s1.fn = s.fn
theorem kst_bd {α β : Type} {x : Ps α} {f : α → Ps β} (hx : Kst x) (hf : ∀ a, Kst (f a)) : Kst (bd x f) := by
  intro s b s2 h
  obtain ⟨a, s1, h1, h2⟩ := bd_inv h
  obtain ⟨e1, e2⟩ := hx s a s1 h1
  obtain ⟨f1, f2⟩ := hf a s1 b s2 h2
  exact ⟨f1.trans e1, f2.trans e2⟩
theorem kst_ok {α : Type} (a : α) : Kst (okP a) := by
  intro s b s1 h
  injection h with e1 e2
  subst e2
  exact ⟨rfl, rfl⟩
theorem kst_no {α : Type} {c i : Sg → Nat} : Kst (fun s => .no (c s) (i s) : Ps α) := fun s a s1 h => by cases h
theorem kst_if {α : Type} {b : Sg → Bool} {x y : Ps α} (hx : Kst x) (hy : Kst y) : Kst (fun s => if b s then x s else y s) := by
  intro s a s1 h
  by_cases hb : b s = true
  · exact hx s a s1 (by simpa [hb] using h)
  · exact hy s a s1 (by simpa [hb] using h)
theorem kst_at {α : Type} {x : Sg → Ps α} (h : ∀ s0, Kst (x s0)) : Kst (fun s => x s s) := fun s a s1 h1 => h s s a s1 h1
theorem kst_next : Kst (nextP T) := fun _ _ _ h => next_st h
theorem kst_takeP (l : List (List UInt8)) : Kst (takeP T l) := kst_if kst_next (kst_no (c := fun _ => 3) (i := fun s => s.at_))
theorem kst_takeK (k : Nat) : Kst (takeK T k) := kst_if kst_next (kst_no (c := fun _ => 3) (i := fun s => s.at_))
theorem kst_putE (lo : Nat) (x : Ex) : Kst (putE T lo x) := by
  intro s a s1 h
  unfold putE at h
  injection h with h1 h2
  subst h2
  exact ⟨rfl, rfl⟩
theorem kst_listL {α : Type} {one : Ps α} (h1 : Kst one) : ∀ k (out : List α), Kst (listL T one k out)
  | 0, _ => kst_no (c := fun _ => 0) (i := fun _ => 0)
  | k + 1, out => kst_if (x := Rs.ok out) (kst_ok _) (kst_bd (by by_cases h : out.length = 0 <;> simp only [h, if_true, if_false] <;> first | exact kst_ok _ | exact kst_takeP _) fun _ => kst_bd h1 fun x => kst_listL h1 k (out ++ [x]))
theorem kst_list {α : Type} {one : Ps α} (h1 : Kst one) : Kst (listM T one) := kst_bd (kst_takeP _) fun _ => kst_bd (kst_listL h1 _ []) fun _ => kst_bd (kst_takeP _) fun _ => kst_ok _
theorem kst_pair {part : Ps Nat} (h : Kst part) (lo a : Nat) : Kst (pairM T part lo a) := kst_bd kst_next fun _ => kst_bd h fun _ => kst_putE _ _
theorem kst_rowL {part : Ps Nat} (h : Kst part) (signs : List (List UInt8)) (lo : Nat) : ∀ k a, Kst (rowL T part signs lo k a)
  | 0, _ => kst_no (c := fun _ => 0) (i := fun _ => 0)
  | k + 1, a => kst_if (x := bd (pairM T part lo a) (rowL T part signs lo k)) (y := Rs.ok a) (kst_bd (kst_pair h lo a) fun b => kst_rowL h signs lo k b) (kst_ok _)
theorem kst_row {part : Ps Nat} (h : Kst part) (signs : List (List UInt8)) : Kst (rowM T part signs) := kst_at (x := fun s => bd part (rowL T part signs (cur T s).lo (T.length + 1))) fun _ => kst_bd h fun a => kst_rowL h signs _ _ a
theorem kst_comparison {op : Ps Nat} (h : Kst op) : Kst (comparisonM T op) :=
  kst_at (x := fun s => bd (sumM T op) (fun a s1 => if isP T sgCmp s1 then pairM T (sumM T op) (cur T s).lo a s1 else .ok a s1)) fun s =>
    kst_bd (kst_row (kst_row h _) _) fun a => kst_if (x := pairM T (sumM T op) (cur T s).lo a) (y := Rs.ok a) (kst_pair (kst_row (kst_row h _) _) _ _) (kst_ok _)
theorem kst_expression {op : Ps Nat} (h : Kst op) : Kst (expressionM T op) := kst_row (kst_row (kst_comparison h) _) _
theorem kst_number : Kst (numberM T) := kst_bd (kst_takeK _) fun _ => kst_ok _
theorem kst_index {e : Ps Nat} (h : Kst e) : Kst (indexM T e) := kst_bd (kst_takeP _) fun _ => kst_bd h fun _ => kst_bd (kst_takeP _) fun _ => kst_ok _
theorem kst_call {sub : Ps Nat} (h : Kst sub) (lo : Nat) (name : List UInt8) : Kst (callM T sub lo name) := kst_bd (kst_list (kst_expression h)) fun _ => kst_putE _ _
theorem kst_reference {sub : Ps Nat} (h : Kst sub) : Kst (referenceM T sub) :=
  kst_at (x := fun s => bd (takeK T 1) (fun name s1 =>
  if isP T [[40]] s1 then callM T sub (cur T s).lo name s1
  else if isP T [[91]] s1 then bd (indexM T (expressionM T sub)) (fun a => putE T (cur T s).lo { kind := 5, name := name, a := a }) s1
  else putE T (cur T s).lo { kind := 4, name := name } s1)) fun s => kst_bd (kst_takeK _) fun name =>
    kst_if (x := callM T sub (cur T s).lo name) (kst_call h _ _) (kst_if (x := bd (indexM T (expressionM T sub)) (fun a => putE T (cur T s).lo { kind := 5, name := name, a := a })) (kst_bd (kst_index (kst_expression h)) fun _ => kst_putE _ _) (kst_putE _ _))
theorem kst_word : Kst (wordM T) := kst_at (x := fun s => bd (takeP T [kTrue, kFalse, kRead]) (fun x => putE T (cur T s).lo { kind := if x = kTrue then 2 else if x = kFalse then 3 else 7 })) fun _ => kst_bd (kst_takeP _) fun _ => kst_putE _ _
theorem kst_operandS {sub : Ps Nat} (h : Kst sub) : Kst (operandS T sub) :=
  kst_at (x := fun s0 s =>
  if isP T [[45], [33]] s then bd (nextP T) (fun o => bd sub fun a => putE T (cur T s0).lo { kind := 8, op := o, a := a }) s
  else if isP T [[40]] s then bd (takeP T [[40]]) (fun _ => bd (expressionM T sub) fun a => bd (takeP T [[41]]) fun _ => okP a) s
  else if isK T 1 s then referenceM T sub s
  else if isK T 2 s then bd (numberM T) (fun n => putE T (cur T s0).lo { kind := 1, num := n }) s
  else wordM T s) fun s0 =>
    kst_if (x := bd (nextP T) (fun o => bd sub fun a => putE T (cur T s0).lo { kind := 8, op := o, a := a })) (kst_bd kst_next fun _ => kst_bd h fun _ => kst_putE _ _)
      (kst_if (x := bd (takeP T [[40]]) (fun _ => bd (expressionM T sub) fun a => bd (takeP T [[41]]) fun _ => okP a)) (kst_bd (kst_takeP _) fun _ => kst_bd (kst_expression h) fun _ => kst_bd (kst_takeP _) fun _ => kst_ok _)
        (kst_if (x := referenceM T sub) (kst_reference h) (kst_if (x := bd (numberM T) (fun n => putE T (cur T s0).lo { kind := 1, num := n })) (kst_bd kst_number fun _ => kst_putE _ _) kst_word)))
theorem kst_operand : ∀ k, Kst (operandM T k)
  | 0 => kst_no (c := fun _ => 4) (i := fun s => s.at_)
  | k + 1 => kst_operandS (kst_operand k)

/-- One goes on over statements: what was put has the shape. -/
structure Go1 (s s1 : Sg) : Prop where
  ex : s.ex <+: s1.ex
  st : s.st <+: s1.st
  fn : s1.fn = s.fn
theorem Go1.trans {s s1 s2 : Sg} (h : Go1 s s1) (h2 : Go1 s1 s2) : Go1 s s2 := ⟨h.ex.trans h2.ex, h.st.trans h2.st, h2.fn.trans h.fn⟩
theorem go_takeP {l : List (List UInt8)} {s s1 : Sg} {a : List UInt8} (h : takeP T l s = .ok a s1) : Go1 s s1 ∧ s1.ex = s.ex ∧ s1.st = s.st ∧ a ∈ l := by
  obtain ⟨e1, e2⟩ := takeP_ex h
  obtain ⟨e3, e4⟩ := kst_takeP l s a s1 h
  exact ⟨⟨by rw [e1]; exact List.prefix_refl _, by rw [e3]; exact List.prefix_refl _, e4⟩, e1, e3, List.contains_iff_mem.1 e2⟩
theorem go_takeK {k : Nat} {s s1 : Sg} {a : List UInt8} (h : takeK T k s = .ok a s1) : Go1 s s1 ∧ s1.ex = s.ex ∧ s1.st = s.st ∧ a = (cur T s).txt ∧ (cur T s).kind = k := by
  obtain ⟨e1, e2, e5⟩ := takeK_ex h
  obtain ⟨e3, e4⟩ := kst_takeK k s a s1 h
  exact ⟨⟨by rw [e1]; exact List.prefix_refl _, by rw [e3]; exact List.prefix_refl _, e4⟩, e1, e3, e2, e5⟩
theorem go_ex (hT : Nms nm nu T) {k : Nat} {s s1 : Sg} {a : Nat} (h : expressionM T (operandM T k) s = .ok a s1) : Go1 s s1 ∧ s1.st = s.st ∧ a + 1 = s1.ex.length ∧ Sh nm nu s1.ex k s.ex.length a := by
  obtain ⟨e1, e2, e3⟩ := expression_snd (operand_snd hT k) s a s1 h
  obtain ⟨e4, e5⟩ := kst_expression (kst_operand k) s a s1 h
  exact ⟨⟨e1, by rw [e4]; exact List.prefix_refl _, e5⟩, e4, e2, e3.sh⟩
/-- A statement. -/
def SSnd (nm : List UInt8 → Prop) (nu : Nat → Prop) (k : Nat) (x : Ps Nat) : Prop := ∀ s i s1, x s = .ok i s1 → Go1 s s1 ∧ i + 1 = s1.st.length ∧ SSh nm nu s1.ex s1.st k s.ex.length s.st.length i s1.ex.length
/-- A block. -/
def BSnd (nm : List UInt8 → Prop) (nu : Nat → Prop) (k : Nat) (x : Ps (List Nat)) : Prop := ∀ s l s1, x s = .ok l s1 → Go1 s s1 ∧ k ≠ 0 ∧ BL (SSh nm nu s1.ex s1.st k) l s.ex.length s.st.length s1.ex.length s1.st.length
theorem blockL_snd {k : Nat} {one : Ps Nat} (hp : SSnd nm nu k one) {m0 q0 : Nat} : ∀ fu out s l s1, BL (SSh nm nu s.ex s.st k) out m0 q0 s.ex.length s.st.length → blockL T one fu out s = .ok l s1 → Go1 s s1 ∧ BL (SSh nm nu s1.ex s1.st k) l m0 q0 s1.ex.length s1.st.length
  | 0, _, _, _, _, _, h => by unfold blockL at h; cases h
  | fu + 1, out, s, l, s1, ho, h => by
    unfold blockL at h
    by_cases hi : isP T [[125]] s = true
    · rw [if_pos hi] at h
      injection h with h1 h2
      subst h1 h2
      exact ⟨⟨List.prefix_refl _, List.prefix_refl _, rfl⟩, ho⟩
    · rw [if_neg hi] at h
      obtain ⟨x, s2, h2, h3⟩ := bd_inv h
      obtain ⟨e1, e2, e3⟩ := hp s x s2 h2
      have hb := (ho.mono fun _ _ _ _ h => SSh.mono e1.ex e1.st h).snoc e3
      rw [e2] at hb
      obtain ⟨f1, f2⟩ := blockL_snd hp fu (out ++ [x]) s2 l s1 hb h3
      exact ⟨e1.trans f1, f2⟩
theorem blkOf_snd {k : Nat} {one : Ps Nat} (hp : SSnd nm nu k one) : BSnd nm nu k (blkOf T k one) := by
  intro s l s1 h
  unfold blkOf at h
  by_cases hk : k = 0
  · rw [if_pos hk] at h; cases h
  · rw [if_neg hk] at h
    unfold blockS at h
    obtain ⟨_, s2, h1, h⟩ := bd_inv h
    obtain ⟨b, s3, h2, h⟩ := bd_inv h
    obtain ⟨_, s4, h3, h4⟩ := bd_inv h
    injection h4 with h5 h6
    subst h5 h6
    obtain ⟨a1, a2, a3, _⟩ := go_takeP h1
    obtain ⟨c1, c2, c3, _⟩ := go_takeP h3
    obtain ⟨b1, b2⟩ := blockL_snd hp (m0 := s2.ex.length) (q0 := s2.st.length) _ [] s2 b s3 ⟨rfl, rfl⟩ h2
    rw [a2, a3] at b2
    refine ⟨(a1.trans b1).trans c1, hk, ?_⟩
    rw [c2, c3]; exact b2
theorem putS_go {lo : Nat} {x : Sm} {s s1 : Sg} {i : Nat} (h : putS T lo x s = .ok i s1) : i = s.st.length ∧ s1.ex = s.ex ∧ s1.fn = s.fn ∧ s1.st = s.st ++ [{ x with lo := lo, hi := lastHi T s }] := by
  unfold putS at h
  injection h with h1 h2
  subst h1 h2
  exact ⟨rfl, rfl, rfl, rfl⟩
theorem SB.put_at {E : List Ex} {P : Nat → Nat → Nat → Nat → Prop} {k : Nat} {x : Sm} {m0 q0 i m1 : Nat} (h : SB nm nu E P k x m0 q0 i m1) (lo hi : Nat) : SB nm nu E P k { x with lo := lo, hi := hi } m0 q0 i m1 := by
  cases h with
  | var a h1 h2 h3 h4 h5 => exact .var a h1 h2 h3 h4 h5
  | arr h1 h2 h3 h4 h5 => exact .arr h1 h2 h3 h4 h5
  | set a h1 h2 h3 h4 h5 => exact .set a h1 h2 h3 h4 h5
  | put a h1 h2 h3 h4 h5 h6 => exact .put a h1 h2 h3 h4 h5 h6
  | cond a m q h1 h2 h3 h4 h5 => exact .cond a m q h1 h2 h3 h4 h5
  | loop a h1 h2 h3 h4 => exact .loop a h1 h2 h3 h4
  | jump h1 h2 h3 h4 => exact .jump h1 h2 h3 h4
  | ret0 h1 h2 h3 => exact .ret0 h1 h2 h3
  | ret a h1 h2 h3 h4 => exact .ret a h1 h2 h3 h4
  | print a h1 h2 h3 h4 => exact .print a h1 h2 h3 h4
  | call a h1 h2 h3 h4 h5 => exact .call a h1 h2 h3 h4 h5
/-- A statement's fields, before it is put. -/
def FSnd (nm : List UInt8 → Prop) (nu : Nat → Prop) (k : Nat) (x : Ps Sm) : Prop := ∀ s y s1, x s = .ok y s1 → Go1 s s1 ∧ SB nm nu s1.ex (SSh nm nu s1.ex s1.st k) k y s.ex.length s.st.length s1.st.length s1.ex.length
theorem otherwise_snd {k : Nat} {blk : Ps (List Nat)} {stm : Ps Nat} (hb : BSnd nm nu k blk) (hs : SSnd nm nu k stm) : ∀ s l s1, otherwiseM T blk stm s = .ok l s1 → Go1 s s1 ∧ BL (SSh nm nu s1.ex s1.st k) l s.ex.length s.st.length s1.ex.length s1.st.length := by
  intro s l s1 h
  unfold otherwiseM at h
  by_cases hi : isP T [kIf] s = true
  · rw [if_pos hi] at h
    obtain ⟨i, s2, h1, h2⟩ := bd_inv h
    injection h2 with h3 h4
    subst h3 h4
    obtain ⟨e1, e2, e3⟩ := hs s i s2 h1
    exact ⟨e1, s2.ex.length, e3, rfl, e2⟩
  · rw [if_neg hi] at h
    obtain ⟨e1, _, e3⟩ := hb s l s1 h
    exact ⟨e1, e3⟩
theorem BL.up {E E' : List Ex} (hE : E <+: E') {S S' : List Sm} (hS : S <+: S') {k : Nat} {l : List Nat} {m0 q0 m1 q1 : Nat} (h : BL (SSh nm nu E S k) l m0 q0 m1 q1) : BL (SSh nm nu E' S' k) l m0 q0 m1 q1 := h.mono fun _ _ _ _ h => SSh.mono hE hS h
theorem choice_snd (hT : Nms nm nu T) {k : Nat} {blk : Ps (List Nat)} {stm : Ps Nat} (hb : BSnd nm nu k blk) (hs : SSnd nm nu k stm) : FSnd nm nu k (choiceM T (expressionM T (operandM T (k + 1))) blk stm) := by
  intro s y s1 h
  unfold choiceM at h
  obtain ⟨_, s2, h1, h⟩ := bd_inv h
  obtain ⟨a, s3, h2, h⟩ := bd_inv h
  obtain ⟨l, s4, h3, h⟩ := bd_inv h
  obtain ⟨a1, a2, a3, _⟩ := go_takeP h1
  obtain ⟨b1, b2, b3, b4⟩ := go_ex hT h2
  obtain ⟨c1, c2, c3⟩ := hb s3 l s4 h3
  rw [a2] at b4
  rw [← b3, b2, a3] at c3
  by_cases hi : isP T [kElse] s4 = true
  · rw [if_pos hi] at h
    obtain ⟨_, s5, k1, h⟩ := bd_inv h
    obtain ⟨m, s6, k2, k3⟩ := bd_inv h
    injection k3 with k4 k5
    subst k4 k5
    obtain ⟨d1, d2, d3, _⟩ := go_takeP k1
    obtain ⟨e1, e2⟩ := otherwise_snd hb hs s5 m s6 k2
    rw [d2, d3] at e2
    have hg := d1.trans e1
    exact ⟨((a1.trans b1).trans c1).trans hg, .cond a s4.ex.length s4.st.length rfl (b4.mono (c1.trans hg).ex) c2 (c3.up hg.ex hg.st) e2⟩
  · rw [if_neg hi] at h
    injection h with k4 k5
    subst k4 k5
    exact ⟨(a1.trans b1).trans c1, .cond a s4.ex.length s4.st.length rfl (b4.mono c1.ex) c2 c3 ⟨rfl, rfl⟩⟩
theorem loop_snd (hT : Nms nm nu T) {k : Nat} {blk : Ps (List Nat)} (hb : BSnd nm nu k blk) : FSnd nm nu k (loopM T (expressionM T (operandM T (k + 1))) blk) := by
  intro s y s1 h
  unfold loopM at h
  obtain ⟨_, s2, h1, h⟩ := bd_inv h
  obtain ⟨a, s3, h2, h⟩ := bd_inv h
  obtain ⟨l, s4, h3, h⟩ := bd_inv h
  injection h with k4 k5
  subst k4 k5
  obtain ⟨a1, a2, a3, _⟩ := go_takeP h1
  obtain ⟨b1, b2, b3, b4⟩ := go_ex hT h2
  obtain ⟨c1, c2, c3⟩ := hb s3 l s4 h3
  rw [a2] at b4
  rw [← b3, b2, a3] at c3
  exact ⟨(a1.trans b1).trans c1, .loop a rfl (b4.mono c1.ex) c2 c3⟩
theorem named_snd (hT : Nms nm nu T) {k : Nat} : FSnd nm nu k (namedM T (expressionM T (operandM T (k + 1))) (operandM T k)) := by
  intro s y s1 h
  unfold namedM at h
  obtain ⟨name, s2, h1, h⟩ := bd_inv h
  obtain ⟨a1, a2, a3, a4, a5⟩ := go_takeK h1
  have hn : nm name := by rw [a4]; exact hT.name s a5
  by_cases hi : isP T [[40]] s2 = true
  · rw [if_pos hi] at h
    obtain ⟨a, s3, h2, h3⟩ := bd_inv h
    injection h3 with k4 k5
    subst k4 k5
    obtain ⟨b1, b2, b3⟩ := call_snd (operand_snd hT k) hn h2
    obtain ⟨b4, b5⟩ := kst_call (kst_operand k) (cur T s).lo name s2 a s3 h2
    have h6 : ∃ y, s3.ex[a]? = some y ∧ y.kind = 6 := by
      unfold callM at h2
      obtain ⟨l, s4, _, q2⟩ := bd_inv h2
      obtain ⟨rfl, q3⟩ := putE_ex q2
      exact ⟨_, by rw [q3]; exact put_get _ _, rfl⟩
    rw [a2] at b3
    have hsh : Sh nm nu s3.ex (k + 1) s.ex.length a := by
      obtain ⟨y, y1, y2⟩ := h6
      obtain ⟨k', ⟨x, x1, x2⟩, x3⟩ := b3
      rw [y1] at x1
      obtain rfl := Option.some.inj x1
      rw [lvE5 (by rw [y2]; decide), if_neg (by omega)] at x2
      subst x2
      exact x3
    refine ⟨a1.trans ⟨b1, by rw [b4]; exact List.prefix_refl _, b5⟩, .call a rfl hsh h6 b2 (by rw [b4, a3])⟩
  · rw [if_neg hi] at h
    by_cases hj : isP T [[91]] s2 = true
    · rw [if_pos hj] at h
      obtain ⟨a, s3, h2, h⟩ := bd_inv h
      obtain ⟨_, s4, h3, h⟩ := bd_inv h
      obtain ⟨b, s5, h4, h5⟩ := bd_inv h
      injection h5 with k4 k5
      subst k4 k5
      unfold indexM at h2
      obtain ⟨_, t1, q1, h2⟩ := bd_inv h2
      obtain ⟨c, t2, q2, h2⟩ := bd_inv h2
      obtain ⟨_, t3, q3, q4⟩ := bd_inv h2
      injection q4 with q5 q6
      subst q5 q6
      obtain ⟨r1, r2, r3, _⟩ := go_takeP q1
      obtain ⟨u1, u2, u3, u4⟩ := go_ex hT q2
      obtain ⟨v1, v2, v3, _⟩ := go_takeP q3
      obtain ⟨w1, w2, w3, _⟩ := go_takeP h3
      obtain ⟨x1, x2, x3, x4⟩ := go_ex hT h4
      rw [r2, a2] at u4
      rw [w2, v2, ← u3] at x4
      exact ⟨((((a1.trans r1).trans u1).trans v1).trans w1).trans x1, .put c hn rfl (u4.mono ((v1.trans w1).trans x1).ex) x4 x3 (by rw [x2, w3, v3, u2, r3, a3])⟩
    · rw [if_neg hj] at h
      obtain ⟨_, s4, h3, h⟩ := bd_inv h
      obtain ⟨b, s5, h4, h5⟩ := bd_inv h
      injection h5 with k4 k5
      subst k4 k5
      obtain ⟨w1, w2, w3, _⟩ := go_takeP h3
      obtain ⟨x1, x2, x3, x4⟩ := go_ex hT h4
      rw [w2, a2] at x4
      exact ⟨(a1.trans w1).trans x1, .set b hn rfl x4 x3 (by rw [x2, w3, a3])⟩
theorem variable_snd (hT : Nms nm nu T) {k : Nat} : FSnd nm nu k (variableM T (expressionM T (operandM T (k + 1)))) := by
  intro s y s1 h
  unfold variableM at h
  obtain ⟨_, s2, h1, h⟩ := bd_inv h
  obtain ⟨name, s3, h2, h⟩ := bd_inv h
  obtain ⟨o, s4, h3, h⟩ := bd_inv h
  obtain ⟨a1, a2, a3, _⟩ := go_takeP h1
  obtain ⟨b1, b2, b3, b4, b5⟩ := go_takeK h2
  obtain ⟨c1, c2, c3, _⟩ := go_takeP h3
  have hn : nm name := by rw [b4]; exact hT.name s2 b5
  by_cases ho : o = [61]
  · rw [if_pos ho] at h
    obtain ⟨a, s5, h4, h5⟩ := bd_inv h
    injection h5 with k4 k5
    subst k4 k5
    obtain ⟨x1, x2, x3, x4⟩ := go_ex hT h4
    rw [c2, b2, a2] at x4
    exact ⟨((a1.trans b1).trans c1).trans x1, .var a hn rfl x4 x3 (by rw [x2, c3, b3, a3])⟩
  · rw [if_neg ho] at h
    obtain ⟨m, s5, h4, h⟩ := bd_inv h
    obtain ⟨_, s6, h5, h6⟩ := bd_inv h
    injection h6 with k4 k5
    subst k4 k5
    unfold numberM at h4
    obtain ⟨v, s7, h7, h8⟩ := bd_inv h4
    injection h8 with h9 h10
    subst h9 h10
    obtain ⟨d1, d2, d3, d4, d5⟩ := go_takeK h7
    obtain ⟨e1, e2, e3, _⟩ := go_takeP h5
    exact ⟨(((a1.trans b1).trans c1).trans d1).trans e1, .arr hn (by show nu (numOf v); rw [d4]; exact hT.num s4 d5) rfl (by rw [e2, d2, c2, b2, a2]) (by rw [e3, d3, c3, b3, a3])⟩
theorem answer_snd (hT : Nms nm nu T) {k : Nat} : FSnd nm nu k (answerM T (expressionM T (operandM T (k + 1)))) := by
  intro s y s1 h
  unfold answerM at h
  obtain ⟨_, s2, h1, h⟩ := bd_inv h
  obtain ⟨a1, a2, a3, _⟩ := go_takeP h1
  by_cases hi : isP T [[59]] s2 = true
  · rw [if_pos hi] at h
    injection h with k4 k5
    subst k4 k5
    exact ⟨a1, .ret0 rfl (by rw [a2]) (by rw [a3])⟩
  · rw [if_neg hi] at h
    obtain ⟨a, s5, h4, h5⟩ := bd_inv h
    injection h5 with k4 k5
    subst k4 k5
    obtain ⟨x1, x2, x3, x4⟩ := go_ex hT h4
    rw [a2] at x4
    exact ⟨a1.trans x1, .ret a rfl x4 x3 (by rw [x2, a3])⟩
theorem simple_snd (hT : Nms nm nu T) {k : Nat} : FSnd nm nu k (simpleM T (expressionM T (operandM T (k + 1))) (operandM T k)) := by
  intro s y s1 h
  unfold simpleM at h
  by_cases h1 : isK T 1 s = true
  · rw [if_pos h1] at h; exact named_snd hT s y s1 h
  · rw [if_neg h1] at h
    by_cases h2 : isP T [kVar] s = true
    · rw [if_pos h2] at h; exact variable_snd hT s y s1 h
    · rw [if_neg h2] at h
      by_cases h3 : isP T [kReturn] s = true
      · rw [if_pos h3] at h; exact answer_snd hT s y s1 h
      · rw [if_neg h3] at h
        by_cases h4 : isP T [kPrint] s = true
        · rw [if_pos h4] at h
          obtain ⟨_, s2, h5, h⟩ := bd_inv h
          obtain ⟨a, s3, h6, h7⟩ := bd_inv h
          injection h7 with k4 k5
          subst k4 k5
          obtain ⟨a1, a2, a3, _⟩ := go_takeP h5
          obtain ⟨x1, x2, x3, x4⟩ := go_ex hT h6
          rw [a2] at x4
          exact ⟨a1.trans x1, .print a rfl x4 x3 (by rw [x2, a3])⟩
        · rw [if_neg h4] at h
          obtain ⟨o, s2, h5, h6⟩ := bd_inv h
          injection h6 with k4 k5
          subst k4 k5
          obtain ⟨a1, a2, a3, _⟩ := go_takeP h5
          refine ⟨a1, .jump ?_ rfl (by rw [a2]) (by rw [a3])⟩
          by_cases ho : o = kBreak
          · rw [if_pos ho]; exact .inl rfl
          · rw [if_neg ho]; exact .inr rfl
theorem fields_snd (hT : Nms nm nu T) {k : Nat} {blk : Ps (List Nat)} {stm : Ps Nat} (hb : BSnd nm nu k blk) (hs : SSnd nm nu k stm) : FSnd nm nu k (fieldsM T (expressionM T (operandM T (k + 1))) (operandM T k) blk stm) := by
  intro s y s1 h
  unfold fieldsM at h
  by_cases h1 : isP T [kIf] s = true
  · rw [if_pos h1] at h; exact choice_snd hT hb hs s y s1 h
  · rw [if_neg h1] at h
    by_cases h2 : isP T [kWhile] s = true
    · rw [if_pos h2] at h; exact loop_snd hT hb s y s1 h
    · rw [if_neg h2] at h
      obtain ⟨x, s2, h3, h⟩ := bd_inv h
      obtain ⟨_, s3, h4, h5⟩ := bd_inv h
      injection h5 with k4 k5
      subst k4 k5
      obtain ⟨a1, a2⟩ := simple_snd hT s x s2 h3
      obtain ⟨c1, c2, c3, _⟩ := go_takeP h4
      refine ⟨a1.trans c1, ?_⟩
      rw [c2, c3]; exact a2
theorem stmt_snd (hT : Nms nm nu T) : ∀ k, SSnd nm nu k (stmtM T k)
  | 0 => fun s i s1 h => by cases h
  | k + 1 => by
    intro s i s1 h
    have h' : bd (fieldsM T (expressionM T (operandM T (k + 1))) (operandM T k) (blkOf T k (stmtM T k)) (stmtM T k)) (putS T (cur T s).lo) s = .ok i s1 := h
    obtain ⟨x, s2, h1, h2⟩ := bd_inv h'
    obtain ⟨a1, a2⟩ := fields_snd hT (blkOf_snd (stmt_snd hT k)) (stmt_snd hT k) s x s2 h1
    obtain ⟨rfl, b2, b3, b4⟩ := putS_go h2
    have hpre : s2.st <+: s1.st := by rw [b4]; exact List.prefix_append _ _
    refine ⟨a1.trans ⟨by rw [b2]; exact List.prefix_refl _, hpre, b3⟩, by rw [b4]; simp, { x with lo := (cur T s).lo, hi := lastHi T s2 }, by rw [b4]; exact List.getElem?_concat_length, ?_⟩
    rw [b2]
    exact (a2.mono (List.prefix_refl _) fun _ _ _ _ h => SSh.mono (List.prefix_refl _) hpre h).put_at _ _
theorem block_snd (hT : Nms nm nu T) (k : Nat) : BSnd nm nu k (blockM T k) := blkOf_snd (stmt_snd hT k)
end
end Go.Proofs.YtdeflloidhbpmaaGreatDoor

namespace Go.Proofs.YtdeflloidhbpmaaGreatDoor

def semi : Wd := (4, [59])
/-- The words of a block. -/
def blW (g : Nat → List Wd) (l : List Nat) : List Wd := (4, [123]) :: (l.flatMap g ++ [(4, [125])])
/-- Is it one if statement alone? -/
def oneIf (S : List Sm) (l : List Nat) : Option Nat := match l with
  | [j] => match S[j]? with
    | some y => if y.kind = 5 then some j else none
    | none => none
  | _ => none
/-- The words from else on. -/
def elW (S : List Sm) (g : Nat → List Wd) (l : List Nat) : List Wd :=
  if l = [] then [] else (3, kElse) :: (match oneIf S l with
    | some j => g j
    | none => blW g l)
/-- The words of a statement. -/
def stW (dec : Nat → List UInt8) (E : List Ex) (S : List Sm) : Nat → Nat → List Wd
  | 0, _ => []
  | n + 1, i => match S[i]? with
    | none => []
    | some x =>
      if x.kind = 1 then (3, kVar) :: (1, x.name) :: (4, [61]) :: (prE dec E E.length x.a.toNat ++ [semi])
      else if x.kind = 2 then [(3, kVar), (1, x.name), (4, [91]), (2, dec x.num), (4, [93]), semi]
      else if x.kind = 3 then (1, x.name) :: (4, [61]) :: (prE dec E E.length x.a.toNat ++ [semi])
      else if x.kind = 4 then (1, x.name) :: (4, [91]) :: (prE dec E E.length x.a.toNat ++ (4, [93]) :: (4, [61]) :: (prE dec E E.length x.b ++ [semi]))
      else if x.kind = 5 then (3, kIf) :: (prE dec E E.length x.a.toNat ++ (blW (stW dec E S n) x.thn ++ elW S (stW dec E S n) x.els))
      else if x.kind = 6 then (3, kWhile) :: (prE dec E E.length x.a.toNat ++ blW (stW dec E S n) x.thn)
      else if x.kind = 7 then [(3, kBreak), semi]
      else if x.kind = 8 then [(3, kContinue), semi]
      else if x.kind = 9 then (if x.a < 0 then [(3, kReturn), semi] else (3, kReturn) :: (prE dec E E.length x.a.toNat ++ [semi]))
      else if x.kind = 10 then (3, kPrint) :: (prE dec E E.length x.a.toNat ++ [semi])
      else prE dec E E.length x.a.toNat ++ [semi]

section
variable {T : List Tk} {nm : List UInt8 → Prop} {nu : Nat → Prop} {dec : Nat → List UInt8} {E : List Ex} {S : List Sm}
/-- So many expressions and statements are there, but for where they stand. -/
structure B2 (E : List Ex) (S : List Sm) (m q : Nat) (s : Sg) : Prop where
  ex : BT E m s
  len : s.st.length = q
  le : q ≤ S.length
  st : s.st.map bareS = (S.map bareS).take q
theorem B2.at_ {m q : Nat} {s : Sg} (h : B2 E S m q s) (k : Nat) : B2 E S m q { s with at_ := k } := ⟨⟨h.ex.1, h.ex.2.1, h.ex.2.2⟩, h.len, h.le, h.st⟩
theorem B2.next {m q m' : Nat} {s s' : Sg} (h : B2 E S m q s) (hb : BT E m' s') (hs : s'.st = s.st) : B2 E S m' q s' := ⟨hb, by rw [hs]; exact h.len, h.le, by rw [hs]; exact h.st⟩
theorem B2.few {m q : Nat} {s : Sg} (h : B2 E S m q s) (hS : S.length ≤ 1000) : s.st.length ≤ 1000 := by rw [h.len]; exact Nat.le_trans h.le hS
theorem B2.put {m q : Nat} {s : Sg} (h : B2 E S m q s) {x y : Sm} (hx : S[q]? = some x) (hy : bareS y = bareS x) : B2 E S m (q + 1) { s with st := s.st ++ [y] } := by
  have hq : q < S.length := (List.getElem?_eq_some_iff.1 hx).1
  refine ⟨h.ex, by simp [h.len], hq, ?_⟩
  show (s.st ++ [y]).map bareS = _
  rw [List.map_append, h.st, List.take_add_one, List.getElem?_map, hx]
  simp [hy]
theorem putS_again {m q : Nat} {s : Sg} (h : B2 E S m q s) {x y : Sm} (hx : S[q]? = some x) (hy : bareS y = bareS x) (lo : Nat) : ∃ s', putS T lo y s = .ok q s' ∧ s'.at_ = s.at_ ∧ B2 E S m (q + 1) s' ∧ s'.fn = s.fn := by
  refine ⟨{ s with st := s.st ++ [{ y with lo := lo, hi := lastHi T s }] }, ?_, rfl, h.put hx (by rw [← hy]; rfl), rfl⟩
  unfold putS; rw [h.len]
theorem Mt.lt {p : Nat} {w : Wd} {L : List Wd} (h : Mt T p (w :: L)) : p < T.length := by
  obtain ⟨t, ht, _⟩ := h 0 (by simp)
  rw [Nat.add_zero] at ht
  exact (List.getElem?_eq_some_iff.1 ht).1
/-- An expression in a statement. -/
theorem ex_again (hn : NmOk nm nu dec) {k f a : Nat} (h : Sh nm nu E k f a) {s : Sg} (hB : BT E f s) (hst : s.st.length ≤ 1000) {w : Wd} {L : List Wd} (hM : Mt T s.at_ (prE dec E E.length a ++ w :: L)) (hw : w.2 ≠ [40] ∧ w.2 ≠ [91] ∧ isOp w.2 = false) :
    (cur T s).txt ∉ ([[41], [59]] : List (List UInt8)) ∧ ∃ s', expressionM T (operandM T k) s = .ok a s' ∧ s'.at_ = s.at_ + (prE dec E E.length a).length ∧ BT E (a + 1) s' ∧ s'.st = s.st ∧ s'.fn = s.fn := by
  have hl := h.lt.1
  obtain ⟨c0, c1, _⟩ := again hn h E.length hl s hB hst hM.left hM.right.lt _ (List.getElem?_eq_getElem hl)
  exact ⟨c0, c1 0 (Nat.zero_le _) (nx_of hM.right ⟨hw.1, hw.2.1, fun h => by rw [hw.2.2] at h; cases h⟩)⟩
/-- What a statement's words come to. -/
def Cs (T : List Tk) (dec : Nat → List UInt8) (E : List Ex) (S : List Sm) (k m0 q0 i m1 : Nat) : Prop := ∀ N, i < N → ∀ s, B2 E S m0 q0 s → Mt T s.at_ (stW dec E S N i) → s.at_ + (stW dec E S N i).length < T.length →
  (T.getD (s.at_ + (stW dec E S N i).length) ⟨0, 0, 0, []⟩).txt ≠ kElse → ∃ s', stmtM T k s = .ok i s' ∧ s'.at_ = s.at_ + (stW dec E S N i).length ∧ B2 E S m1 (i + 1) s' ∧ s'.fn = s.fn
theorem Sh.name6 {k f i : Nat} (h : Sh nm nu E k f i) {y : Ex} (hy : E[i]? = some y) (h6 : y.kind = 6) : nm y.name := by
  have key : ∀ {x : Ex} {z : Ex}, E[i]? = some x → bare x = z → z.kind ≠ 6 → False := fun h1 h2 h3 => by
    rw [hy] at h1
    obtain rfl := Option.some.inj h1
    exact h3 (by rw [← h2]; exact h6)
  cases h with
  | num h1 _ h3 => exact (key h1 h3 (by simp)).elim
  | word h1 h2 h3 => exact (key h1 h3 (by show _ ≠ 6; rcases h2 with h | h | h <;> rw [h] <;> decide)).elim
  | name h1 _ h3 => exact (key h1 h3 (by simp)).elim
  | idx h1 _ h3 => exact (key h1 h3 (by simp)).elim
  | call h1 h2 =>
    rw [hy] at h1
    obtain rfl := Option.some.inj h1
    exact h2
  | un h1 _ h3 => exact (key h1 h3 (by simp)).elim
  | pair h1 _ h3 => exact (key h1 h3 (by simp)).elim
/-- A statement's first word. -/
theorem stW_first (hn : NmOk nm nu dec) {k m0 q0 i m1 N : Nat} (h : SSh nm nu E S k m0 q0 i m1) (hN : i < N) : ∃ w L, stW dec E S N i = w :: L ∧ w.2 ∉ ([[125], kElse] : List (List UInt8)) ∧ ∀ x, S[i]? = some x → (x.kind = 5 → w.2 = kIf) ∧ (x.kind ≠ 5 → w.2 ≠ kIf) := by
  obtain ⟨N, rfl⟩ : ∃ M, N = M + 1 := ⟨N - 1, by omega⟩
  cases k with
  | zero => exact h.elim
  | succ k =>
    obtain ⟨x, hx, hs⟩ := h
    have key : ∀ (w : Wd) (L : List Wd), stW dec E S (N + 1) i = w :: L → w.2 ∉ ([[125], kElse] : List (List UInt8)) → ((x.kind = 5 → w.2 = kIf) ∧ (x.kind ≠ 5 → w.2 ≠ kIf)) → ∃ w L, stW dec E S (N + 1) i = w :: L ∧ w.2 ∉ ([[125], kElse] : List (List UInt8)) ∧ ∀ x, S[i]? = some x → (x.kind = 5 → w.2 = kIf) ∧ (x.kind ≠ 5 → w.2 ≠ kIf) := fun w L h1 h2 h3 => ⟨w, L, h1, h2, fun y hy => by
      rw [hx] at hy
      obtain rfl := Option.some.inj hy
      exact h3⟩
    have hnam : ∀ b, nm b → b ∉ ([[125], kElse] : List (List UInt8)) ∧ b ≠ kIf := fun b hb => by
      have := (hn.name b hb).2.2.2
      simp only [List.mem_cons, List.not_mem_nil, or_false, not_or] at this ⊢
      exact ⟨⟨this.2.2.2, this.2.2.1⟩, this.1⟩
    cases hs with
    | var a h1 h2 =>
      have hk : x.kind = 1 := congrArg Sm.kind h2
      exact key (3, kVar) _ (by simp [stW, hx, hk]; rfl) (by decide) ⟨fun h => by omega, fun _ => by decide⟩
    | arr h1 h2 h3 =>
      have hk : x.kind = 2 := congrArg Sm.kind h3
      exact key (3, kVar) _ (by simp [stW, hx, hk]; rfl) (by decide) ⟨fun h => by omega, fun _ => by decide⟩
    | set a h1 h2 =>
      have hk : x.kind = 3 := congrArg Sm.kind h2
      exact key (1, x.name) _ (by simp [stW, hx, hk]; rfl) (hnam _ h1).1 ⟨fun h => by omega, fun _ => (hnam _ h1).2⟩
    | put a h1 h2 =>
      have hk : x.kind = 4 := congrArg Sm.kind h2
      exact key (1, x.name) _ (by simp [stW, hx, hk]; rfl) (hnam _ h1).1 ⟨fun h => by omega, fun _ => (hnam _ h1).2⟩
    | cond a m q h1 =>
      have hk : x.kind = 5 := congrArg Sm.kind h1
      exact key (3, kIf) _ (by simp [stW, hx, hk]; rfl) (by decide) ⟨fun _ => rfl, fun h => absurd hk h⟩
    | loop a h1 =>
      have hk : x.kind = 6 := congrArg Sm.kind h1
      exact key (3, kWhile) _ (by simp [stW, hx, hk]; rfl) (by decide) ⟨fun h => by omega, fun _ => by decide⟩
    | jump h1 h2 =>
      rcases h1 with hk | hk
      · exact key (3, kBreak) _ (by simp [stW, hx, hk]; rfl) (by decide) ⟨fun h => by omega, fun _ => by decide⟩
      · exact key (3, kContinue) _ (by simp [stW, hx, hk]; rfl) (by decide) ⟨fun h => by omega, fun _ => by decide⟩
    | ret0 h1 =>
      have hk : x.kind = 9 := congrArg Sm.kind h1
      have ha : x.a < 0 := by
        have : x.a = -1 := congrArg Sm.a h1
        omega
      exact key (3, kReturn) _ (by simp [stW, hx, hk, ha]; rfl) (by decide) ⟨fun h => by omega, fun _ => by decide⟩
    | ret a h1 =>
      have hk : x.kind = 9 := congrArg Sm.kind h1
      have ha : ¬ x.a < 0 := by
        have : x.a = (a : Int) := congrArg Sm.a h1
        omega
      exact key (3, kReturn) _ (by simp [stW, hx, hk, ha]; rfl) (by decide) ⟨fun h => by omega, fun _ => by decide⟩
    | print a h1 =>
      have hk : x.kind = 10 := congrArg Sm.kind h1
      exact key (3, kPrint) _ (by simp [stW, hx, hk]; rfl) (by decide) ⟨fun h => by omega, fun _ => by decide⟩
    | call a h1 h2 h3 =>
      have hk : x.kind = 11 := congrArg Sm.kind h1
      have ha : x.a = (a : Int) := congrArg Sm.a h1
      obtain ⟨y, y1, y2⟩ := h3
      have hnm := h2.name6 y1 y2
      have hl := h2.lt.1
      obtain ⟨M, hM⟩ : ∃ M, E.length = M + 1 := ⟨E.length - 1, by omega⟩
      exact key (1, y.name) _ (by simp [stW, hx, hk, ha, hM, prE, y1, y2]; rfl) (hnam _ hnm).1 ⟨fun h => by omega, fun _ => (hnam _ hnm).2⟩
theorem cur_of {s : Sg} {p : Nat} (h : s.at_ = p) : (T.getD p ⟨0, 0, 0, []⟩) = cur T s := by rw [← h]; rfl
/-- A block's statements. -/
theorem blockL_again (hn : NmOk nm nu dec) {k N : Nat} (hC : ∀ m0 q0 i m1, SSh nm nu E S k m0 q0 i m1 → Cs T dec E S k m0 q0 i m1) : ∀ (l : List Nat) (m0 q0 m1 q1 fu : Nat) (out : List Nat) (s : Sg), BL (SSh nm nu E S k) l m0 q0 m1 q1 → l.length < fu → (∀ a ∈ l, a < N) → B2 E S m0 q0 s →
    Mt T s.at_ (l.flatMap (stW dec E S N) ++ [(4, [125])]) →
    ∃ s', blockL T (stmtM T k) fu out s = .ok (out ++ l) s' ∧ s'.at_ = s.at_ + (l.flatMap (stW dec E S N)).length ∧ B2 E S m1 q1 s' ∧ s'.fn = s.fn
  | [], m0, q0, m1, q1, fu + 1, out, s, ⟨h1, h2⟩, _, _, hB, hM => by
    have h0 := hM.head (s := s) rfl
    subst h1 h2
    refine ⟨s, ?_, rfl, hB, rfl⟩
    unfold blockL
    rw [isP_yes (by rw [h0.2]; decide), if_pos rfl, List.append_nil]
  | _, _, _, _, _, 0, _, _, _, h, _, _, _ => absurd h (Nat.not_lt_zero _)
  | a :: r, m0, q0, m1, q1, fu + 1, out, s, ⟨m, h1, h2⟩, hf, hN, hB, hM => by
    have hM' : Mt T s.at_ (stW dec E S N a ++ (r.flatMap (stW dec E S N) ++ [(4, [125])])) := by simpa using hM
    have hlt : s.at_ + (stW dec E S N a).length < T.length := by
      have hr := hM'.right
      cases hz : (r.flatMap (stW dec E S N) ++ [((4, [125]) : Wd)]) with
      | nil => simp at hz
      | cons w L => rw [hz] at hr; exact hr.lt
    have c1 := hC _ _ _ _ h1 N (hN a (by simp)) s hB hM'.left hlt
    obtain ⟨w0, L0, hw0, c0, _⟩ := stW_first hn h1 (hN a (by simp))
    have hcur : (cur T s).txt = w0.2 := by
      have := hM'
      rw [hw0] at this
      exact (this.head (s := s) rfl).2
    -- what comes behind it
    have hne : (T.getD (s.at_ + (stW dec E S N a).length) ⟨0, 0, 0, []⟩).txt ≠ kElse := by
      cases r with
      | nil =>
        have := (hM'.right.head (s := { s with at_ := s.at_ + (stW dec E S N a).length }) rfl).2
        rw [cur_of (s := { s with at_ := s.at_ + (stW dec E S N a).length }) rfl, this]
        decide
      | cons b r =>
        -- the next statement's first word
        obtain ⟨m', h3, h4⟩ := h2
        obtain ⟨w, L, hw, hw2, _⟩ := stW_first hn h3 (hN b (by simp))
        have hr := hM'.right
        rw [List.flatMap_cons, List.append_assoc, hw] at hr
        have := (hr.head (s := { s with at_ := s.at_ + (stW dec E S N a).length }) rfl).2
        rw [cur_of (s := { s with at_ := s.at_ + (stW dec E S N a).length }) rfl, this]
        intro he
        exact hw2 (by rw [he]; simp)
    obtain ⟨s1, e1, e2, e3, e4⟩ := c1 hne
    obtain ⟨s2, g1, g2, g3, g4⟩ := blockL_again hn hC r m (a + 1) m1 q1 fu (out ++ [a]) s1 h2 (by simpa using hf) (fun b hb => hN b (by simp [hb])) e3 (by rw [e2]; exact hM'.right)
    refine ⟨s2, ?_, by rw [g2, e2]; simp; omega, g3, g4.trans e4⟩
    unfold blockL
    rw [isP_no (fun hm => c0 (by rw [List.mem_singleton] at hm; rw [← hcur, hm]; simp)), if_neg (by decide), bd_ok e1, g1, List.append_assoc]
    rfl
/-- A statement's fields were made: it is put. -/
theorem stm_fin {k m1 i d : Nat} {x y : Sm} {s s1 : Sg} (hf : fieldsM T (expressionM T (operandM T (k + 1))) (operandM T k) (blkOf T k (stmtM T k)) (stmtM T k) s = .ok y s1) (hx : S[i]? = some x) (hy : bareS y = bareS x) (hB : B2 E S m1 i s1) (ha : s1.at_ = s.at_ + d) (hfn : s1.fn = s.fn) :
    ∃ s', stmtM T (k + 1) s = .ok i s' ∧ s'.at_ = s.at_ + d ∧ B2 E S m1 (i + 1) s' ∧ s'.fn = s.fn := by
  obtain ⟨s', h1, h2, h3, h4⟩ := putS_again (T := T) hB hx hy (cur T s).lo
  refine ⟨s', ?_, by rw [h2, ha], h3, h4.trans hfn⟩
  show bd (fieldsM T (expressionM T (operandM T (k + 1))) (operandM T k) (blkOf T k (stmtM T k)) (stmtM T k)) (putS T (cur T s).lo) s = _
  rw [bd_ok hf, h1]
/-- A simple statement, and its semicolon. -/
theorem simple_fin {ex sub : Ps Nat} {blk : Ps (List Nat)} {stm : Ps Nat} {y : Sm} {s s1 : Sg} (h1 : (cur T s).txt ∉ ([kIf] : List (List UInt8))) (h2 : (cur T s).txt ∉ ([kWhile] : List (List UInt8))) (hs : simpleM T ex sub s = .ok y s1) (hst : s1.st.length ≤ 1000) {L : List Wd} (hM : Mt T s1.at_ (semi :: L)) :
    fieldsM T ex sub blk stm s = .ok y { s1 with at_ := s1.at_ + 1 } := by
  unfold fieldsM
  rw [isP_no h1, if_neg (by decide), isP_no h2, if_neg (by decide), bd_ok hs, bd_ok (takeP_go hst (by rw [(hM.head (s := s1) rfl).2]; decide))]
  rfl
theorem notW (w : List UInt8) (h : w ≠ kIf) : w ∉ ([kIf] : List (List UInt8)) := by rw [List.mem_singleton]; exact h
theorem notV (w : List UInt8) (h : w ≠ kWhile) : w ∉ ([kWhile] : List (List UInt8)) := by rw [List.mem_singleton]; exact h
theorem name_ne (hn : NmOk nm nu dec) {b : List UInt8} (h : nm b) : b ≠ kIf ∧ b ≠ kWhile := by
  have := (hn.name b h).2.2.2
  simp only [List.mem_cons, List.not_mem_nil, or_false, not_or] at this
  exact ⟨this.1, this.2.1⟩
/-- A block. -/
theorem blk_again (hn : NmOk nm nu dec) (hS : S.length ≤ 1000) {k N : Nat} (hk : k ≠ 0) (hC : ∀ m0 q0 i m1, SSh nm nu E S k m0 q0 i m1 → Cs T dec E S k m0 q0 i m1) {l : List Nat} {m0 q0 m1 q1 : Nat} (hb : BL (SSh nm nu E S k) l m0 q0 m1 q1) (hN : ∀ a ∈ l, a < N) {s : Sg} (hB : B2 E S m0 q0 s) (hM : Mt T s.at_ (blW (stW dec E S N) l)) :
    ∃ s', blkOf T k (stmtM T k) s = .ok l s' ∧ s'.at_ = s.at_ + (blW (stW dec E S N) l).length ∧ B2 E S m1 q1 s' ∧ s'.fn = s.fn := by
  have h0 := hM.head (s := s) rfl
  have hst := hB.few hS
  have hlen : ∀ (r : List Nat), (∀ a ∈ r, 0 < (stW dec E S N a).length) → r.length ≤ (r.flatMap (stW dec E S N)).length := by
    intro r
    induction r with
    | nil => intro _; exact Nat.zero_le _
    | cons a r ih =>
      intro h
      have h1 := ih fun b hb => h b (by simp [hb])
      have h2 := h a (by simp)
      rw [List.flatMap_cons, List.length_append, List.length_cons]; omega
  have hpos : ∀ a ∈ l, 0 < (stW dec E S N a).length := by
    have key : ∀ (l : List Nat) (m0 q0 m1 q1 : Nat), BL (SSh nm nu E S k) l m0 q0 m1 q1 → (∀ a ∈ l, a < N) → ∀ a ∈ l, 0 < (stW dec E S N a).length := by
      intro l
      induction l with
      | nil => intro _ _ _ _ _ _ a ha; cases ha
      | cons b r ih =>
        intro m0 q0 m1 q1 ⟨m, h1, h2⟩ hN a ha
        rcases List.mem_cons.1 ha with rfl | ha
        · obtain ⟨w, L, hw, _⟩ := stW_first hn h1 (hN a (by simp))
          rw [hw]; simp
        · exact ih _ _ _ _ h2 (fun c hc => hN c (by simp [hc])) a ha
    exact key l _ _ _ _ hb hN
  have hfu : l.length < T.length + 1 := by
    have h1 := hlen l hpos
    have h2 := hM.tail.right.lt
    omega
  obtain ⟨s1, e1, e2, e3, e4⟩ := blockL_again hn hC l m0 q0 m1 q1 (T.length + 1) [] { s with at_ := s.at_ + 1 } hb hfu hN (hB.at_ _) hM.tail
  have e2' : s1.at_ = s.at_ + 1 + (l.flatMap (stW dec E S N)).length := e2
  have hz := hM.tail.right.head (s := s1) e2'
  refine ⟨{ s1 with at_ := s1.at_ + 1 }, ?_, by show s1.at_ + 1 = _; rw [e2']; simp [blW]; omega, e3.at_ _, e4⟩
  unfold blkOf
  rw [if_neg hk]
  unfold blockS
  rw [bd_ok (takeP_go hst (by rw [h0.2]; decide)), bd_ok e1, bd_ok (takeP_go (e3.few hS) (by rw [hz.2]; decide))]
  rfl
theorem BL.lt {P : Nat → Nat → Nat → Nat → Prop} (hP : ∀ m0 q0 i m1, P m0 q0 i m1 → q0 ≤ i) : ∀ {l : List Nat} {m0 q0 m1 q1 : Nat}, BL P l m0 q0 m1 q1 → q0 ≤ q1 ∧ ∀ a ∈ l, a < q1
  | [], _, _, _, _, ⟨_, h⟩ => ⟨by omega, fun a ha => by cases ha⟩
  | a :: r, _, _, _, _, ⟨m, h1, h2⟩ => by
    obtain ⟨e1, e2⟩ := h2.lt hP
    have := hP _ _ _ _ h1
    refine ⟨by omega, fun b hb => ?_⟩
    rcases List.mem_cons.1 hb with rfl | hb
    · omega
    · exact e2 b hb
theorem SSh.le : ∀ {k m0 q0 i m1 : Nat}, SSh nm nu E S k m0 q0 i m1 → q0 ≤ i
  | 0, _, _, _, _, h => h.elim
  | k + 1, _, _, _, _, ⟨x, _, hs⟩ => by
    cases hs with
    | cond a m q _ _ _ h4 h5 => have := (h4.lt fun _ _ _ _ h => SSh.le h).1; have := (h5.lt fun _ _ _ _ h => SSh.le h).1; omega
    | loop a _ _ _ h4 => exact (h4.lt fun _ _ _ _ h => SSh.le h).1
    | _ => omega
end
end Go.Proofs.YtdeflloidhbpmaaGreatDoor

namespace Go.Proofs.YtdeflloidhbpmaaGreatDoor

section
variable {T : List Tk} {nm : List UInt8 → Prop} {nu : Nat → Prop} {dec : Nat → List UInt8} {E : List Ex} {S : List Sm}
/-- A simple statement was made: with its semicolon it is put. -/
theorem simple_go {k m1 i d : Nat} {x y : Sm} {s s1 : Sg} (hS : S.length ≤ 1000) (h1 : (cur T s).txt ∉ ([kIf] : List (List UInt8))) (h2 : (cur T s).txt ∉ ([kWhile] : List (List UInt8))) (hs : simpleM T (expressionM T (operandM T (k + 1))) (operandM T k) s = .ok y s1) (hx : S[i]? = some x) (hy : bareS y = bareS x) (hB : B2 E S m1 i s1) (ha : s1.at_ = s.at_ + d) (hfn : s1.fn = s.fn) (hM : Mt T s1.at_ [semi]) :
    ∃ s', stmtM T (k + 1) s = .ok i s' ∧ s'.at_ = s.at_ + (d + 1) ∧ B2 E S m1 (i + 1) s' ∧ s'.fn = s.fn :=
  stm_fin (simple_fin h1 h2 hs (hB.few hS) hM) hx hy (hB.at_ (s1.at_ + 1)) (show s1.at_ + 1 = _ by omega) hfn
theorem len_semi (L : List Wd) : (L ++ [semi]).length = L.length + 1 := by simp
theorem simple_kw {k : Nat} {s : Sg} {w : List UInt8} (h : (cur T s).kind = 3) (hw : (cur T s).txt = w) : simpleM T (expressionM T (operandM T (k + 1))) (operandM T k) s =
    (if w = kVar then variableM T (expressionM T (operandM T (k + 1))) s else if w = kReturn then answerM T (expressionM T (operandM T (k + 1))) s
      else if w = kPrint then bd (takeP T [kPrint]) (fun _ => bd (expressionM T (operandM T (k + 1))) fun a => okP { kind := 10, a := a }) s
      else bd (takeP T [kBreak, kContinue]) (fun x => okP { kind := if x = kBreak then 7 else 8 }) s) := by
  have key : ∀ v : List UInt8, (isP T [v] s = true) = (w = v) := fun v => by
    unfold isP; rw [hw]; simp
  unfold simpleM
  rw [isK_no h (by simp), if_neg (by decide)]
  simp only [key]
theorem again_var (hn : NmOk nm nu dec) (hS : S.length ≤ 1000) {k m0 q0 i m1 a : Nat} {x : Sm} (hx : S[i]? = some x) (h2 : bareS x = { kind := 1, name := x.name, a := a }) (h3 : Sh nm nu E (k + 1) m0 a) (h4 : a + 1 = m1) (h5 : i = q0) : Cs T dec E S (k + 1) m0 q0 i m1 := by
  intro N hN s hB hM hl _
  obtain ⟨N, rfl⟩ : ∃ M, N = M + 1 := ⟨N - 1, by omega⟩
  have hk : x.kind = 1 := congrArg Sm.kind h2
  have ha : x.a = (a : Int) := congrArg Sm.a h2
  have e : stW dec E S (N + 1) i = (3, kVar) :: (1, x.name) :: (4, [61]) :: (prE dec E E.length a ++ [semi]) := by simp [stW, hx, hk, ha]
  rw [e] at hM hl ⊢
  have hst := hB.few hS
  obtain ⟨a1, a2⟩ := hM.head (s := s) rfl
  obtain ⟨b1, b2⟩ := hM.tail.head (s := { s with at_ := s.at_ + 1 }) rfl
  obtain ⟨c1, c2⟩ := hM.tail.tail.head (s := { s with at_ := s.at_ + 1 + 1 }) rfl
  have hM3 := hM.tail.tail.tail
  obtain ⟨_, s1, e1, e2, e3, e4, e5⟩ := ex_again hn h3 (s := { s with at_ := s.at_ + 1 + 1 + 1 }) (hB.at_ _).ex hst hM3 (by decide)
  have e2' : s1.at_ = s.at_ + 1 + 1 + 1 + (prE dec E E.length a).length := e2
  have hB1 := (hB.at_ (s.at_ + 1 + 1 + 1)).next e3 e4
  have hM4 := hM3.right
  rw [← e2'] at hM4
  subst h4 h5
  have := simple_go hS (d := 3 + (prE dec E E.length a).length) (k := k) (s := s) (by rw [a2]; decide) (by rw [a2]; decide) (y := { kind := 1, name := x.name, a := a }) (s1 := s1) (by
    rw [simple_kw a1 a2, if_pos rfl]
    unfold variableM
    rw [bd_ok (takeP_go hst (by rw [a2]; decide)), bd_ok (takeK_go (s := { s with at_ := s.at_ + 1 }) hst b1), bd_ok (takeP_go (s := { s with at_ := s.at_ + 1 + 1 }) hst (by rw [c2]; decide)), c2, if_pos rfl, bd_ok e1, b2]
    rfl) hx (by rw [h2]; rfl) hB1 (by omega) e5 hM4
  obtain ⟨s', f1, f2, f3⟩ := this
  exact ⟨s', f1, by rw [f2]; simp; omega, f3⟩
theorem again_arr (hn : NmOk nm nu dec) (hS : S.length ≤ 1000) {k m0 q0 i m1 : Nat} {x : Sm} (hx : S[i]? = some x) (hu : nu x.num) (h2 : bareS x = { kind := 2, name := x.name, num := x.num }) (h4 : m0 = m1) (h5 : i = q0) : Cs T dec E S (k + 1) m0 q0 i m1 := by
  intro N hN s hB hM hl _
  obtain ⟨N, rfl⟩ : ∃ M, N = M + 1 := ⟨N - 1, by omega⟩
  have hk : x.kind = 2 := congrArg Sm.kind h2
  have e : stW dec E S (N + 1) i = [(3, kVar), (1, x.name), (4, [91]), (2, dec x.num), (4, [93]), semi] := by simp [stW, hx, hk]
  rw [e] at hM hl ⊢
  have hst := hB.few hS
  obtain ⟨a1, a2⟩ := hM.head (s := s) rfl
  obtain ⟨b1, b2⟩ := hM.tail.head (s := { s with at_ := s.at_ + 1 }) rfl
  obtain ⟨c1, c2⟩ := hM.tail.tail.head (s := { s with at_ := s.at_ + 1 + 1 }) rfl
  obtain ⟨d1, d2⟩ := hM.tail.tail.tail.head (s := { s with at_ := s.at_ + 1 + 1 + 1 }) rfl
  obtain ⟨g1, g2⟩ := hM.tail.tail.tail.tail.head (s := { s with at_ := s.at_ + 1 + 1 + 1 + 1 }) rfl
  have hM4 := hM.tail.tail.tail.tail.tail
  have hB1 := hB.at_ (s.at_ + 1 + 1 + 1 + 1 + 1)
  subst h4 h5
  have := simple_go hS (d := 5) (k := k) (s := s) (by rw [a2]; decide) (by rw [a2]; decide) (y := { kind := 2, name := x.name, num := x.num }) (s1 := { s with at_ := s.at_ + 1 + 1 + 1 + 1 + 1 }) (by
    rw [simple_kw a1 a2, if_pos rfl]
    unfold variableM numberM
    rw [bd_ok (takeP_go hst (by rw [a2]; decide)), bd_ok (takeK_go (s := { s with at_ := s.at_ + 1 }) hst b1), bd_ok (takeP_go (s := { s with at_ := s.at_ + 1 + 1 }) hst (by rw [c2]; decide)), c2, if_neg (by decide)]
    rw [bd_ok (show bd (takeK T 2) (fun x => okP (numOf x)) { s with at_ := s.at_ + 1 + 1 + 1 } = .ok x.num { s with at_ := s.at_ + 1 + 1 + 1 + 1 } by rw [bd_ok (takeK_go (s := { s with at_ := s.at_ + 1 + 1 + 1 }) hst d1), d2, ← (hn.num _ hu).2.2.2]; exact congrArg (fun z => Rs.ok z _) (congrArg numOf (congrArg dec (hn.num _ hu).2.2.2)))]
    rw [bd_ok (takeP_go (s := { s with at_ := s.at_ + 1 + 1 + 1 + 1 }) hst (by rw [g2]; decide)), b2]
    rfl) hx (by rw [h2]; rfl) hB1 rfl rfl hM4
  obtain ⟨s', f1, f2, f3⟩ := this
  exact ⟨s', f1, f2, f3⟩
theorem simple_nm {k : Nat} {s : Sg} (h : (cur T s).kind = 1) (hst : s.st.length ≤ 1000) : simpleM T (expressionM T (operandM T (k + 1))) (operandM T k) s =
    (if isP T [[40]] { s with at_ := s.at_ + 1 } then bd (callM T (operandM T k) (cur T s).lo (cur T s).txt) (fun a => okP { kind := 11, a := a }) { s with at_ := s.at_ + 1 }
     else if isP T [[91]] { s with at_ := s.at_ + 1 } then bd (indexM T (expressionM T (operandM T (k + 1)))) (fun a => bd (takeP T [[61]]) fun _ => bd (expressionM T (operandM T (k + 1))) fun b => okP { kind := 4, name := (cur T s).txt, a := a, b := b }) { s with at_ := s.at_ + 1 }
     else bd (takeP T [[61]]) (fun _ => bd (expressionM T (operandM T (k + 1))) fun a => okP { kind := 3, name := (cur T s).txt, a := a }) { s with at_ := s.at_ + 1 }) := by
  unfold simpleM namedM
  rw [isK_yes h, if_pos rfl, bd_ok (takeK_go hst h)]
theorem again_set (hn : NmOk nm nu dec) (hS : S.length ≤ 1000) {k m0 q0 i m1 a : Nat} {x : Sm} (hx : S[i]? = some x) (h1 : nm x.name) (h2 : bareS x = { kind := 3, name := x.name, a := a }) (h3 : Sh nm nu E (k + 1) m0 a) (h4 : a + 1 = m1) (h5 : i = q0) : Cs T dec E S (k + 1) m0 q0 i m1 := by
  intro N hN s hB hM hl _
  obtain ⟨N, rfl⟩ : ∃ M, N = M + 1 := ⟨N - 1, by omega⟩
  have hk : x.kind = 3 := congrArg Sm.kind h2
  have ha : x.a = (a : Int) := congrArg Sm.a h2
  have e : stW dec E S (N + 1) i = (1, x.name) :: (4, [61]) :: (prE dec E E.length a ++ [semi]) := by simp [stW, hx, hk, ha]
  rw [e] at hM hl ⊢
  have hst := hB.few hS
  obtain ⟨a1, a2⟩ := hM.head (s := s) rfl
  obtain ⟨b1, b2⟩ := hM.tail.head (s := { s with at_ := s.at_ + 1 }) rfl
  have hM3 := hM.tail.tail
  obtain ⟨_, s1, e1, e2, e3, e4, e5⟩ := ex_again hn h3 (s := { s with at_ := s.at_ + 1 + 1 }) (hB.at_ _).ex hst hM3 (by decide)
  have e2' : s1.at_ = s.at_ + 1 + 1 + (prE dec E E.length a).length := e2
  have hB1 := (hB.at_ (s.at_ + 1 + 1)).next e3 e4
  have hM4 := hM3.right
  rw [← e2'] at hM4
  subst h4 h5
  have := simple_go hS (d := 2 + (prE dec E E.length a).length) (k := k) (s := s) (by rw [a2]; exact notW _ (name_ne hn h1).1) (by rw [a2]; exact notV _ (name_ne hn h1).2) (y := { kind := 3, name := x.name, a := a }) (s1 := s1) (by
    rw [simple_nm a1 hst, isP_no (by rw [b2]; decide), if_neg (by decide), isP_no (by rw [b2]; decide), if_neg (by decide)]
    rw [bd_ok (takeP_go (s := { s with at_ := s.at_ + 1 }) hst (by rw [b2]; decide)), bd_ok e1, a2]
    rfl) hx (by rw [h2]; rfl) hB1 (by omega) e5 hM4
  obtain ⟨s', f1, f2, f3⟩ := this
  exact ⟨s', f1, by rw [f2]; simp; omega, f3⟩
theorem again_put (hn : NmOk nm nu dec) (hS : S.length ≤ 1000) {k m0 q0 i m1 a : Nat} {x : Sm} (hx : S[i]? = some x) (h1 : nm x.name) (h2 : bareS x = { kind := 4, name := x.name, a := a, b := x.b }) (h3 : Sh nm nu E (k + 1) m0 a) (h3b : Sh nm nu E (k + 1) (a + 1) x.b) (h4 : x.b + 1 = m1) (h5 : i = q0) : Cs T dec E S (k + 1) m0 q0 i m1 := by
  intro N hN s hB hM hl _
  obtain ⟨N, rfl⟩ : ∃ M, N = M + 1 := ⟨N - 1, by omega⟩
  have hk : x.kind = 4 := congrArg Sm.kind h2
  have ha : x.a = (a : Int) := congrArg Sm.a h2
  have e : stW dec E S (N + 1) i = (1, x.name) :: (4, [91]) :: (prE dec E E.length a ++ (4, [93]) :: (4, [61]) :: (prE dec E E.length x.b ++ [semi])) := by simp [stW, hx, hk, ha]
  rw [e] at hM hl ⊢
  have hst := hB.few hS
  obtain ⟨a1, a2⟩ := hM.head (s := s) rfl
  obtain ⟨b1, b2⟩ := hM.tail.head (s := { s with at_ := s.at_ + 1 }) rfl
  have hM3 := hM.tail.tail
  obtain ⟨_, s1, e1, e2, e3, e4, e5⟩ := ex_again hn h3 (s := { s with at_ := s.at_ + 1 + 1 }) (hB.at_ _).ex hst hM3 (by decide)
  have e2' : s1.at_ = s.at_ + 1 + 1 + (prE dec E E.length a).length := e2
  have hB1 := (hB.at_ (s.at_ + 1 + 1)).next e3 e4
  have hst1 := hB1.few hS
  have hM4 := hM3.right
  rw [← e2'] at hM4
  obtain ⟨c1, c2⟩ := hM4.head (s := s1) rfl
  obtain ⟨d1, d2⟩ := hM4.tail.head (s := { s1 with at_ := s1.at_ + 1 }) rfl
  have hM5 := hM4.tail.tail
  obtain ⟨_, s2, g1, g2, g3, g4, g5⟩ := ex_again hn h3b (s := { s1 with at_ := s1.at_ + 1 + 1 }) (hB1.at_ _).ex hst1 hM5 (by decide)
  have g2' : s2.at_ = s1.at_ + 1 + 1 + (prE dec E E.length x.b).length := g2
  have hB2 := (hB1.at_ (s1.at_ + 1 + 1)).next g3 g4
  have hM6 := hM5.right
  rw [← g2'] at hM6
  subst h4 h5
  have := simple_go hS (d := 4 + (prE dec E E.length a).length + (prE dec E E.length x.b).length) (k := k) (s := s) (by rw [a2]; exact notW _ (name_ne hn h1).1) (by rw [a2]; exact notV _ (name_ne hn h1).2) (y := { kind := 4, name := x.name, a := a, b := x.b }) (s1 := s2) (by
    rw [simple_nm a1 hst, isP_no (by rw [b2]; decide), if_neg (by decide), isP_yes (by rw [b2]; decide), if_pos rfl]
    unfold indexM
    rw [bd_ok (show bd (takeP T [[91]]) (fun _ => bd (expressionM T (operandM T (k + 1))) fun a => bd (takeP T [[93]]) fun _ => okP a) { s with at_ := s.at_ + 1 } = .ok a { s1 with at_ := s1.at_ + 1 } by
      rw [bd_ok (takeP_go (s := { s with at_ := s.at_ + 1 }) hst (by rw [b2]; decide)), bd_ok e1, bd_ok (takeP_go hst1 (by rw [c2]; decide))]
      rfl)]
    rw [bd_ok (takeP_go (s := { s1 with at_ := s1.at_ + 1 }) hst1 (by rw [d2]; decide)), bd_ok g1, a2]
    rfl) hx (by rw [h2]; rfl) hB2 (by omega) (g5.trans e5) hM6
  obtain ⟨s', f1, f2, f3⟩ := this
  exact ⟨s', f1, by rw [f2]; simp; omega, f3⟩
theorem again_jump (hS : S.length ≤ 1000) {k m0 q0 i m1 : Nat} {x : Sm} (hx : S[i]? = some x) (h1 : x.kind = 7 ∨ x.kind = 8) (h2 : bareS x = { kind := x.kind }) (h4 : m0 = m1) (h5 : i = q0) : Cs T dec E S (k + 1) m0 q0 i m1 := by
  intro N hN s hB hM hl _
  obtain ⟨N, rfl⟩ : ∃ M, N = M + 1 := ⟨N - 1, by omega⟩
  have hst := hB.few hS
  subst h4 h5
  rcases h1 with hk | hk
  · have e : stW dec E S (N + 1) i = [(3, kBreak), semi] := by simp [stW, hx, hk]
    rw [e] at hM hl ⊢
    obtain ⟨a1, a2⟩ := hM.head (s := s) rfl
    exact simple_go hS (d := 1) (k := k) (s := s) (by rw [a2]; decide) (by rw [a2]; decide) (y := { kind := 7 }) (s1 := { s with at_ := s.at_ + 1 }) (by
      rw [simple_kw a1 a2, if_neg (by decide), if_neg (by decide), if_neg (by decide), bd_ok (takeP_go hst (by rw [a2]; decide)), a2]
      rfl) hx (by rw [h2, hk]; rfl) (hB.at_ _) rfl rfl hM.tail
  · have e : stW dec E S (N + 1) i = [(3, kContinue), semi] := by simp [stW, hx, hk]
    rw [e] at hM hl ⊢
    obtain ⟨a1, a2⟩ := hM.head (s := s) rfl
    exact simple_go hS (d := 1) (k := k) (s := s) (by rw [a2]; decide) (by rw [a2]; decide) (y := { kind := 8 }) (s1 := { s with at_ := s.at_ + 1 }) (by
      rw [simple_kw a1 a2, if_neg (by decide), if_neg (by decide), if_neg (by decide), bd_ok (takeP_go hst (by rw [a2]; decide)), a2]
      rfl) hx (by rw [h2, hk]; rfl) (hB.at_ _) rfl rfl hM.tail
theorem again_ret0 (hS : S.length ≤ 1000) {k m0 q0 i m1 : Nat} {x : Sm} (hx : S[i]? = some x) (h2 : bareS x = { kind := 9, a := -1 }) (h4 : m0 = m1) (h5 : i = q0) : Cs T dec E S (k + 1) m0 q0 i m1 := by
  intro N hN s hB hM hl _
  obtain ⟨N, rfl⟩ : ∃ M, N = M + 1 := ⟨N - 1, by omega⟩
  have hst := hB.few hS
  subst h4 h5
  have hk : x.kind = 9 := congrArg Sm.kind h2
  have ha : x.a = -1 := congrArg Sm.a h2
  have e : stW dec E S (N + 1) i = [(3, kReturn), semi] := by simp [stW, hx, hk, ha]
  rw [e] at hM hl ⊢
  obtain ⟨a1, a2⟩ := hM.head (s := s) rfl
  obtain ⟨b1, b2⟩ := hM.tail.head (s := { s with at_ := s.at_ + 1 }) rfl
  exact simple_go hS (d := 1) (k := k) (s := s) (by rw [a2]; decide) (by rw [a2]; decide) (y := { kind := 9, a := -1 }) (s1 := { s with at_ := s.at_ + 1 }) (by
    rw [simple_kw a1 a2, if_neg (by decide), if_pos rfl]
    unfold answerM
    rw [bd_ok (takeP_go hst (by rw [a2]; decide)), isP_yes (by rw [b2]; decide), if_pos rfl]) hx (by rw [h2]; rfl) (hB.at_ _) rfl rfl hM.tail
theorem again_ret (hn : NmOk nm nu dec) (hS : S.length ≤ 1000) {k m0 q0 i m1 a : Nat} {x : Sm} (hx : S[i]? = some x) (h2 : bareS x = { kind := 9, a := a }) (h3 : Sh nm nu E (k + 1) m0 a) (h4 : a + 1 = m1) (h5 : i = q0) : Cs T dec E S (k + 1) m0 q0 i m1 := by
  intro N hN s hB hM hl _
  obtain ⟨N, rfl⟩ : ∃ M, N = M + 1 := ⟨N - 1, by omega⟩
  have hk : x.kind = 9 := congrArg Sm.kind h2
  have ha : x.a = (a : Int) := congrArg Sm.a h2
  have e : stW dec E S (N + 1) i = (3, kReturn) :: (prE dec E E.length a ++ [semi]) := by
    have hz : ¬ (a : Int) < 0 := by omega
    simp [stW, hx, hk, ha, hz]
  rw [e] at hM hl ⊢
  have hst := hB.few hS
  obtain ⟨a1, a2⟩ := hM.head (s := s) rfl
  have hM3 := hM.tail
  obtain ⟨c0, s1, e1, e2, e3, e4, e5⟩ := ex_again hn h3 (s := { s with at_ := s.at_ + 1 }) (hB.at_ _).ex hst hM3 (by decide)
  have e2' : s1.at_ = s.at_ + 1 + (prE dec E E.length a).length := e2
  have hB1 := (hB.at_ (s.at_ + 1)).next e3 e4
  have hM4 := hM3.right
  rw [← e2'] at hM4
  subst h4 h5
  have c1 : (cur T { s with at_ := s.at_ + 1 }).txt ∉ ([[59]] : List (List UInt8)) := fun h => c0 (by rw [List.mem_singleton] at h; rw [h]; simp)
  have := simple_go hS (d := 1 + (prE dec E E.length a).length) (k := k) (s := s) (by rw [a2]; decide) (by rw [a2]; decide) (y := { kind := 9, a := a }) (s1 := s1) (by
    rw [simple_kw a1 a2, if_neg (by decide), if_pos rfl]
    unfold answerM
    rw [bd_ok (takeP_go hst (by rw [a2]; decide)), isP_no c1, if_neg (by decide), bd_ok e1]
    rfl) hx (by rw [h2]; rfl) hB1 (by omega) e5 hM4
  obtain ⟨s', f1, f2, f3⟩ := this
  exact ⟨s', f1, by rw [f2]; simp; omega, f3⟩
theorem again_print (hn : NmOk nm nu dec) (hS : S.length ≤ 1000) {k m0 q0 i m1 a : Nat} {x : Sm} (hx : S[i]? = some x) (h2 : bareS x = { kind := 10, a := a }) (h3 : Sh nm nu E (k + 1) m0 a) (h4 : a + 1 = m1) (h5 : i = q0) : Cs T dec E S (k + 1) m0 q0 i m1 := by
  intro N hN s hB hM hl _
  obtain ⟨N, rfl⟩ : ∃ M, N = M + 1 := ⟨N - 1, by omega⟩
  have hk : x.kind = 10 := congrArg Sm.kind h2
  have ha : x.a = (a : Int) := congrArg Sm.a h2
  have e : stW dec E S (N + 1) i = (3, kPrint) :: (prE dec E E.length a ++ [semi]) := by simp [stW, hx, hk, ha]
  rw [e] at hM hl ⊢
  have hst := hB.few hS
  obtain ⟨a1, a2⟩ := hM.head (s := s) rfl
  have hM3 := hM.tail
  obtain ⟨_, s1, e1, e2, e3, e4, e5⟩ := ex_again hn h3 (s := { s with at_ := s.at_ + 1 }) (hB.at_ _).ex hst hM3 (by decide)
  have e2' : s1.at_ = s.at_ + 1 + (prE dec E E.length a).length := e2
  have hB1 := (hB.at_ (s.at_ + 1)).next e3 e4
  have hM4 := hM3.right
  rw [← e2'] at hM4
  subst h4 h5
  have := simple_go hS (d := 1 + (prE dec E E.length a).length) (k := k) (s := s) (by rw [a2]; decide) (by rw [a2]; decide) (y := { kind := 10, a := a }) (s1 := s1) (by
    rw [simple_kw a1 a2, if_neg (by decide), if_neg (by decide), if_pos rfl]
    rw [bd_ok (takeP_go hst (by rw [a2]; decide)), bd_ok e1]
    rfl) hx (by rw [h2]; rfl) hB1 (by omega) e5 hM4
  obtain ⟨s', f1, f2, f3⟩ := this
  exact ⟨s', f1, by rw [f2]; simp; omega, f3⟩
theorem again_call (hn : NmOk nm nu dec) (hS : S.length ≤ 1000) {k m0 q0 i m1 a : Nat} {x : Sm} (hx : S[i]? = some x) (h2 : bareS x = { kind := 11, a := a }) (h3 : Sh nm nu E (k + 1) m0 a) (hy : ∃ y, E[a]? = some y ∧ y.kind = 6) (h4 : a + 1 = m1) (h5 : i = q0) : Cs T dec E S (k + 1) m0 q0 i m1 := by
  intro N hN s hB hM hl _
  obtain ⟨N, rfl⟩ : ∃ M, N = M + 1 := ⟨N - 1, by omega⟩
  have hk : x.kind = 11 := congrArg Sm.kind h2
  have ha : x.a = (a : Int) := congrArg Sm.a h2
  have e : stW dec E S (N + 1) i = prE dec E E.length a ++ [semi] := by simp [stW, hx, hk, ha]
  rw [e] at hM hl ⊢
  have hst := hB.few hS
  obtain ⟨y, y1, y2⟩ := hy
  have hnm := h3.name6 y1 y2
  have hla := h3.lt.1
  obtain ⟨_, c1, _⟩ := again hn h3 E.length hla s hB.ex hst hM.left hM.right.lt y y1
  obtain ⟨s1, e1, e2, e3, e4, e5⟩ := c1 5 (by rw [lvE5 (by omega)]; exact Nat.le_refl _) (nx_of hM.right (by decide))
  have hB1 := hB.next e3 e4
  have hM4 := hM.right
  rw [← e2] at hM4
  subst h4 h5
  obtain ⟨M, hMM⟩ : ∃ M, E.length = M + 1 := ⟨E.length - 1, by omega⟩
  have hw : prE dec E E.length a = (1, y.name) :: (4, [40]) :: (commaL (prE dec E M) y.list ++ [(4, [41])]) := by rw [hMM]; simp [prE, y1, y2]
  have hMl := hM.left
  rw [hw] at hMl
  obtain ⟨a1, a2⟩ := hMl.head (s := s) rfl
  obtain ⟨b1, b2⟩ := hMl.tail.head (s := { s with at_ := s.at_ + 1 }) rfl
  obtain ⟨n1, n2, _, _⟩ := hn.name _ hnm
  have hcall : callM T (operandM T k) (cur T s).lo (cur T s).txt { s with at_ := s.at_ + 1 } = .ok a s1 := by
    have : operandS T (operandM T k) s = .ok a s1 := e1
    rw [operand_name a1 (by rw [a2]; exact n1) (by rw [a2]; exact n2) hst, isP_yes (by rw [b2]; decide), if_pos rfl] at this
    exact this
  have := simple_go hS (d := (prE dec E E.length a).length) (k := k) (s := s) (by rw [a2]; exact notW _ (name_ne hn hnm).1) (by rw [a2]; exact notV _ (name_ne hn hnm).2) (y := { kind := 11, a := a }) (s1 := s1) (by
    rw [simple_nm a1 hst, isP_yes (by rw [b2]; decide), if_pos rfl, bd_ok hcall]
    rfl) hx (by rw [h2]; rfl) hB1 e2 e5 hM4
  obtain ⟨s', f1, f2, f3⟩ := this
  exact ⟨s', f1, by rw [f2]; simp, f3⟩
theorem again_loop (hn : NmOk nm nu dec) (hS : S.length ≤ 1000) {k m0 q0 i m1 a : Nat} {x : Sm} (hC : ∀ m0 q0 i m1, SSh nm nu E S k m0 q0 i m1 → Cs T dec E S k m0 q0 i m1) (hx : S[i]? = some x) (h2 : bareS x = { kind := 6, a := a, thn := x.thn }) (h3 : Sh nm nu E (k + 1) m0 a) (h4 : k ≠ 0) (h5 : BL (SSh nm nu E S k) x.thn (a + 1) q0 m1 i) : Cs T dec E S (k + 1) m0 q0 i m1 := by
  intro N hN s hB hM hl _
  obtain ⟨N, rfl⟩ : ∃ M, N = M + 1 := ⟨N - 1, by omega⟩
  have hk : x.kind = 6 := congrArg Sm.kind h2
  have ha : x.a = (a : Int) := congrArg Sm.a h2
  have e : stW dec E S (N + 1) i = (3, kWhile) :: (prE dec E E.length a ++ blW (stW dec E S N) x.thn) := by simp [stW, hx, hk, ha]
  rw [e] at hM hl ⊢
  have hst := hB.few hS
  obtain ⟨a1, a2⟩ := hM.head (s := s) rfl
  have hM3 := hM.tail
  obtain ⟨_, s1, e1, e2, e3, e4, e5⟩ := ex_again hn h3 (s := { s with at_ := s.at_ + 1 }) (hB.at_ _).ex hst (w := (4, [123])) hM3 (by decide)
  have e2' : s1.at_ = s.at_ + 1 + (prE dec E E.length a).length := e2
  have hB1 := (hB.at_ (s.at_ + 1)).next e3 e4
  have hM4 := hM3.right
  rw [← e2'] at hM4
  obtain ⟨s2, g1, g2, g3, g4⟩ := blk_again hn hS h4 hC h5 (fun b hb => by have := (h5.lt fun _ _ _ _ h => SSh.le h).2 b hb; omega) hB1 hM4
  obtain ⟨s', f1, f2, f3⟩ := stm_fin (k := k) (s := s) (s1 := s2) (y := { kind := 6, a := a, thn := x.thn }) (d := 1 + (prE dec E E.length a).length + (blW (stW dec E S N) x.thn).length) (by
    unfold fieldsM
    rw [isP_no (by rw [a2]; decide), if_neg (by decide), isP_yes (by rw [a2]; decide), if_pos rfl]
    unfold loopM
    rw [bd_ok (takeP_go hst (by rw [a2]; decide)), bd_ok e1, bd_ok g1]
    rfl) hx (by rw [h2]; rfl) g3 (by omega) (g4.trans e5)
  exact ⟨s', f1, by rw [f2]; simp; omega, f3⟩
theorem one_if {l : List Nat} {j : Nat} (h : oneIf S l = some j) : l = [j] ∧ ∃ y, S[j]? = some y ∧ y.kind = 5 := by
  unfold oneIf at h
  match l, h with
  | [i], h =>
    dsimp only at h
    cases hs : S[i]? with
    | none => rw [hs] at h; cases h
    | some y =>
      rw [hs] at h
      dsimp only at h
      by_cases hk : y.kind = 5
      · rw [if_pos hk] at h
        obtain rfl := Option.some.inj h
        exact ⟨rfl, y, hs, hk⟩
      · rw [if_neg hk] at h; cases h
theorem again_cond (hn : NmOk nm nu dec) (hS : S.length ≤ 1000) {k m0 q0 i m1 a m q : Nat} {x : Sm} (hC : ∀ m0 q0 i m1, SSh nm nu E S k m0 q0 i m1 → Cs T dec E S k m0 q0 i m1) (hx : S[i]? = some x) (h2 : bareS x = { kind := 5, a := a, thn := x.thn, els := x.els }) (h3 : Sh nm nu E (k + 1) m0 a) (h4 : k ≠ 0) (h5 : BL (SSh nm nu E S k) x.thn (a + 1) q0 m q) (h6 : BL (SSh nm nu E S k) x.els m q m1 i) : Cs T dec E S (k + 1) m0 q0 i m1 := by
  intro N hN s hB hM hl hne
  obtain ⟨N, rfl⟩ : ∃ M, N = M + 1 := ⟨N - 1, by omega⟩
  have hk : x.kind = 5 := congrArg Sm.kind h2
  have ha : x.a = (a : Int) := congrArg Sm.a h2
  have e : stW dec E S (N + 1) i = (3, kIf) :: (prE dec E E.length a ++ (blW (stW dec E S N) x.thn ++ elW S (stW dec E S N) x.els)) := by simp [stW, hx, hk, ha]
  rw [e] at hM hl hne ⊢
  have hst := hB.few hS
  obtain ⟨a1, a2⟩ := hM.head (s := s) rfl
  have hM3 := hM.tail
  obtain ⟨_, s1, e1, e2, e3, e4, e5⟩ := ex_again hn h3 (s := { s with at_ := s.at_ + 1 }) (hB.at_ _).ex hst (w := (4, [123])) hM3 (by decide)
  have e2' : s1.at_ = s.at_ + 1 + (prE dec E E.length a).length := e2
  have hB1 := (hB.at_ (s.at_ + 1)).next e3 e4
  have hM4 := hM3.right
  rw [← e2'] at hM4
  have hlt := h6.lt fun _ _ _ _ h => SSh.le h
  obtain ⟨s2, g1, g2, g3, g4⟩ := blk_again hn hS h4 hC h5 (fun b hb => by have := (h5.lt fun _ _ _ _ h => SSh.le h).2 b hb; omega) hB1 hM4.left
  have hst2 := g3.few hS
  have hM5 := hM4.right
  rw [← g2] at hM5
  have hlen : ((3, kIf) :: (prE dec E E.length a ++ (blW (stW dec E S N) x.thn ++ elW S (stW dec E S N) x.els)) : List Wd).length = 1 + (prE dec E E.length a).length + (blW (stW dec E S N) x.thn).length + (elW S (stW dec E S N) x.els).length := by simp; omega
  rw [hlen] at hl hne ⊢
  have hat2 : s2.at_ = s.at_ + (1 + (prE dec E E.length a).length + (blW (stW dec E S N) x.thn).length) := by omega
  have hf : ∀ r, (choiceM T (expressionM T (operandM T (k + 1))) (blkOf T k (stmtM T k)) (stmtM T k) s = r) → fieldsM T (expressionM T (operandM T (k + 1))) (operandM T k) (blkOf T k (stmtM T k)) (stmtM T k) s = r := fun r h => by
    unfold fieldsM
    rw [isP_yes (by rw [a2]; decide), if_pos rfl]
    exact h
  by_cases hz : x.els = []
  · have he : elW S (stW dec E S N) x.els = [] := by unfold elW; rw [if_pos hz]
    rw [he] at hne ⊢
    rw [hz] at h6
    obtain ⟨h7, h8⟩ := h6
    subst h7 h8
    have hnk : (cur T s2).txt ∉ ([kElse] : List (List UInt8)) := by
      rw [List.mem_singleton, ← cur_of hat2]; exact hne
    exact stm_fin (k := k) (s := s) (s1 := s2) (y := { kind := 5, a := a, thn := x.thn }) (hf _ (by
      unfold choiceM
      rw [bd_ok (takeP_go hst (by rw [a2]; decide)), bd_ok e1, bd_ok g1, isP_no hnk, if_neg (by decide)])) hx (by rw [h2, hz]; rfl) g3 hat2 (g4.trans e5)
  · obtain ⟨L, hw, hL1, hL2⟩ : ∃ L, elW S (stW dec E S N) x.els = (3, kElse) :: L ∧ (∀ j, oneIf S x.els = some j → L = stW dec E S N j) ∧ (oneIf S x.els = none → L = blW (stW dec E S N) x.els) := by
      unfold elW
      rw [if_neg hz]
      cases oneIf S x.els with
      | some j => exact ⟨_, rfl, (fun i h => by cases h; rfl), (fun h => by cases h)⟩
      | none => exact ⟨_, rfl, (fun _ h => by cases h), (fun _ => rfl)⟩
    rw [hw] at hM5 hl hne ⊢
    obtain ⟨b1, b2⟩ := hM5.head (s := s2) rfl
    have hM6 := hM5.tail
    have hfin : ∀ s3, otherwiseM T (blkOf T k (stmtM T k)) (stmtM T k) { s2 with at_ := s2.at_ + 1 } = .ok x.els s3 → s3.at_ = s2.at_ + 1 + L.length → B2 E S m1 i s3 → s3.fn = s2.fn → ∃ s', stmtM T (k + 1) s = .ok i s' ∧ s'.at_ = s.at_ + (1 + (prE dec E E.length a).length + (blW (stW dec E S N) x.thn).length + (((3, kElse) : Wd) :: L).length) ∧ B2 E S m1 (i + 1) s' ∧ s'.fn = s.fn := by
      intro s3 q1 q2 q3 q4
      exact stm_fin (k := k) (s := s) (s1 := s3) (y := { kind := 5, a := a, thn := x.thn, els := x.els }) (hf _ (by
        unfold choiceM
        rw [bd_ok (takeP_go hst (by rw [a2]; decide)), bd_ok e1, bd_ok g1, isP_yes (by rw [b2]; decide), if_pos rfl, bd_ok (takeP_go hst2 (by rw [b2]; decide)), bd_ok q1]
        rfl)) hx (by rw [h2]; rfl) q3 (by rw [q2, hat2, List.length_cons]; omega) ((q4.trans g4).trans e5)
    cases ho : oneIf S x.els with
    | some j =>
      have hL := hL1 j ho
      obtain ⟨hj, y, y1, y2⟩ := one_if ho
      rw [hj] at h6
      obtain ⟨m', h7, h8, h9⟩ := h6
      subst h8
      obtain ⟨w0, L0, hw0, _, c3⟩ := stW_first hn h7 (N := N) (by omega)
      have hM7 := hM6
      rw [hL, hw0] at hM7
      have hc := (hM7.head (s := { s2 with at_ := s2.at_ + 1 }) rfl).2
      have hkIf := (c3 y y1).1 y2
      rw [hL] at hM6 hl hne
      obtain ⟨s3, q1, q2, q3, q4⟩ := hC _ _ _ _ h7 N (by omega) { s2 with at_ := s2.at_ + 1 } (g3.at_ _) hM6 (by show s2.at_ + 1 + _ < _; rw [hat2]; simp at hl; omega) (by
        have : s2.at_ + 1 + (stW dec E S N j).length = s.at_ + (1 + (prE dec E E.length a).length + (blW (stW dec E S N) x.thn).length + (((3, kElse) : Wd) :: stW dec E S N j).length) := by rw [hat2, List.length_cons]; omega
        show (T.getD (s2.at_ + 1 + (stW dec E S N j).length) ⟨0, 0, 0, []⟩).txt ≠ kElse
        rw [this]; exact hne)
      refine hfin s3 ?_ (by rw [hL]; exact q2) (by rw [← h9]; exact q3) q4
      unfold otherwiseM
      rw [isP_yes (by rw [hc, hkIf]; decide), if_pos rfl, bd_ok q1, hj]
      rfl
    | none =>
      have hL := hL2 ho
      rw [hL] at hM6
      obtain ⟨c1, c2⟩ := Mt.head (w := (4, [123])) (L := x.els.flatMap (stW dec E S N) ++ [(4, [125])]) hM6 (s := { s2 with at_ := s2.at_ + 1 }) rfl
      obtain ⟨s3, q1, q2, q3, q4⟩ := blk_again hn hS h4 hC h6 (N := N) (fun b hb => by have := hlt.2 b hb; omega) (g3.at_ (s2.at_ + 1)) hM6
      refine hfin s3 ?_ (by rw [hL]; exact q2) q3 q4
      unfold otherwiseM
      rw [isP_no (by rw [c2]; decide), if_neg (by decide), q1]
/-- A statement's words are parsed as it was. -/
theorem againS (hn : NmOk nm nu dec) (hS : S.length ≤ 1000) : ∀ k m0 q0 i m1, SSh nm nu E S k m0 q0 i m1 → Cs T dec E S k m0 q0 i m1
  | 0, _, _, _, _, h => h.elim
  | k + 1, m0, q0, i, m1, ⟨x, hx, hs⟩ => by
    cases hs with
    | var a _ h2 h3 h4 h5 => exact again_var hn hS hx h2 h3 h4 h5
    | arr _ h2 h3 h4 h5 => exact again_arr hn hS hx h2 h3 h4 h5
    | set a h1 h2 h3 h4 h5 => exact again_set hn hS hx h1 h2 h3 h4 h5
    | put a h1 h2 h3 h4 h5 h6 => exact again_put hn hS hx h1 h2 h3 h4 h5 h6
    | cond a m q h1 h2 h3 h4 h5 => exact again_cond hn hS (againS hn hS k) hx h1 h2 h3 h4 h5
    | loop a h1 h2 h3 h4 => exact again_loop hn hS (againS hn hS k) hx h1 h2 h3 h4
    | jump h1 h2 h3 h4 => exact again_jump hS hx h1 h2 h3 h4
    | ret0 h1 h2 h3 => exact again_ret0 hS hx h1 h2 h3
    | ret a h1 h2 h3 h4 => exact again_ret hn hS hx h1 h2 h3 h4
    | print a h1 h2 h3 h4 => exact again_print hn hS hx h1 h2 h3 h4
    | call a h1 h2 h3 h4 h5 => exact again_call hn hS hx h1 h2 h3 h4 h5
end
end Go.Proofs.YtdeflloidhbpmaaGreatDoor

namespace Go.Proofs.YtdeflloidhbpmaaGreatDoor

def bareF (x : Fu) : Fu := { x with lo := 0, hi := 0 }
def nmTail : List (List UInt8) → List Wd
  | [] => []
  | a :: r => (4, [44]) :: (1, a) :: nmTail r
def nmL : List (List UInt8) → List Wd
  | [] => []
  | a :: r => (1, a) :: nmTail r
/-- A function's words. -/
def fnW (dec : Nat → List UInt8) (E : List Ex) (S : List Sm) (f : Fu) : List Wd :=
  (3, kFunc) :: (1, f.name) :: (4, [40]) :: (nmL f.params ++ (4, [41]) :: ((if f.ty = 1 then [(3, kInt)] else []) ++ blW (stW dec E S S.length) f.body))
/-- A function's shape: from so many expressions and statements on to so many. -/
structure FSh (nm : List UInt8 → Prop) (nu : Nat → Prop) (E : List Ex) (S : List Sm) (f : Fu) (m0 q0 m1 q1 : Nat) : Prop where
  name : nm f.name
  params : ∀ p ∈ f.params, nm p
  ty : f.ty = 1 ∨ f.ty = 4
  body : BL (SSh nm nu E S 64) f.body m0 q0 m1 q1
def FL (P : Fu → Nat → Nat → Nat → Nat → Prop) : List Fu → Nat → Nat → Nat → Nat → Prop
  | [], m0, q0, m1, q1 => m0 = m1 ∧ q0 = q1
  | f :: r, m0, q0, m1, q1 => ∃ m q, P f m0 q0 m q ∧ FL P r m q m1 q1
section
variable {nm : List UInt8 → Prop} {nu : Nat → Prop}
theorem FL.mono {P Q : Fu → Nat → Nat → Nat → Nat → Prop} (h : ∀ f m0 q0 m1 q1, P f m0 q0 m1 q1 → Q f m0 q0 m1 q1) : ∀ {l : List Fu} {m0 q0 m1 q1 : Nat}, FL P l m0 q0 m1 q1 → FL Q l m0 q0 m1 q1
  | [], _, _, _, _, hb => hb
  | _ :: _, _, _, _, _, ⟨m, q, h1, h2⟩ => ⟨m, q, h _ _ _ _ _ h1, h2.mono h⟩
theorem FL.snoc {P : Fu → Nat → Nat → Nat → Nat → Prop} : ∀ {l : List Fu} {m0 q0 m1 q1 m2 q2 : Nat} {f : Fu}, FL P l m0 q0 m1 q1 → P f m1 q1 m2 q2 → FL P (l ++ [f]) m0 q0 m2 q2
  | [], _, _, _, _, m2, q2, _, ⟨rfl, rfl⟩, ha => ⟨m2, q2, ha, rfl, rfl⟩
  | _ :: _, _, _, _, _, _, _, _, ⟨m, q, h1, h2⟩, ha => ⟨m, q, h1, h2.snoc ha⟩
theorem FSh.mono {E E' : List Ex} (hE : E <+: E') {S S' : List Sm} (hS : S <+: S') {f : Fu} {m0 q0 m1 q1 : Nat} (h : FSh nm nu E S f m0 q0 m1 q1) : FSh nm nu E' S' f m0 q0 m1 q1 := ⟨h.name, h.params, h.ty, h.body.up hE hS⟩

variable {T : List Tk}
/-- What the grammar makes. -/
theorem names_snd (hT : Nms nm nu T) : ∀ fu out s l s1, (∀ p ∈ out, nm p) → listL T (takeK T 1) fu out s = .ok l s1 → (∀ p ∈ l, nm p) ∧ s1.ex = s.ex ∧ s1.st = s.st ∧ s1.fn = s.fn
  | 0, _, _, _, _, _, h => by unfold listL at h; cases h
  | fu + 1, out, s, l, s1, ho, h => by
    unfold listL at h
    by_cases hi : isP T [[41]] s = true
    · rw [if_pos hi] at h
      injection h with h1 h2
      subst h1 h2
      exact ⟨ho, rfl, rfl, rfl⟩
    · rw [if_neg hi] at h
      obtain ⟨u, s2, h1, h⟩ := bd_inv h
      obtain ⟨x, s3, h2, h3⟩ := bd_inv h
      have hc : s2.ex = s.ex ∧ s2.st = s.st ∧ s2.fn = s.fn := by
        by_cases hz : out.length = 0
        · rw [if_pos hz] at h1
          injection h1 with _ h4
          subst h4
          exact ⟨rfl, rfl, rfl⟩
        · rw [if_neg hz] at h1
          obtain ⟨a1, a2, a3, _⟩ := go_takeP h1
          exact ⟨a2, a3, a1.fn⟩
      obtain ⟨a1, a2, a3, a4, a5⟩ := go_takeK h2
      have hx : nm x := by rw [a4]; exact hT.name s2 a5
      obtain ⟨b1, b2, b3, b4⟩ := names_snd hT fu (out ++ [x]) s3 l s1 (fun p hp => by
        rcases List.mem_append.1 hp with h | h
        · exact ho p h
        · rw [List.mem_singleton] at h; rw [h]; exact hx) h3
      exact ⟨b1, b2.trans (a2.trans hc.1), b3.trans (a3.trans hc.2.1), b4.trans (a1.fn.trans hc.2.2)⟩
theorem functionM_snd (hT : Nms nm nu T) {s s1 : Sg} {u : Unit} (h : functionM T s = .ok u s1) : s.ex <+: s1.ex ∧ s.st <+: s1.st ∧ ∃ f, s1.fn = s.fn ++ [f] ∧ FSh nm nu s1.ex s1.st f s.ex.length s.st.length s1.ex.length s1.st.length := by
  unfold functionM at h
  by_cases hc : (isP T [kFunc] s && s.fn.length == 32) = true
  · rw [if_pos hc] at h; cases h
  · rw [if_neg hc] at h
    obtain ⟨_, s2, h1, h⟩ := bd_inv h
    obtain ⟨name, s3, h2, h⟩ := bd_inv h
    obtain ⟨ps, s4, h3, h⟩ := bd_inv h
    obtain ⟨ty, s5, h4, h⟩ := bd_inv h
    obtain ⟨body, s6, h5, h6⟩ := bd_inv h
    obtain ⟨a1, a2, a3, _⟩ := go_takeP h1
    obtain ⟨b1, b2, b3, b4, b5⟩ := go_takeK h2
    unfold listM at h3
    obtain ⟨_, t1, c1, h3⟩ := bd_inv h3
    obtain ⟨l, t2, c2, h3⟩ := bd_inv h3
    obtain ⟨_, t3, c3, c4⟩ := bd_inv h3
    injection c4 with c5 c6
    subst c5 c6
    obtain ⟨d1, d2, d3, _⟩ := go_takeP c1
    obtain ⟨e1, e2, e3, e4⟩ := names_snd hT _ [] t1 l t2 (fun p hp => by cases hp) c2
    obtain ⟨f1, f2, f3, _⟩ := go_takeP c3
    have hty : (ty = 1 ∨ ty = 4) ∧ s5.ex = t3.ex ∧ s5.st = t3.st ∧ s5.fn = t3.fn := by
      by_cases hi : isP T [kInt] t3 = true
      · rw [if_pos hi] at h4
        obtain ⟨_, t4, g1, g2⟩ := bd_inv h4
        injection g2 with g3 g4
        subst g3 g4
        obtain ⟨i1, i2, i3, _⟩ := go_takeP g1
        exact ⟨.inl rfl, i2, i3, i1.fn⟩
      · rw [if_neg hi] at h4
        injection h4 with g3 g4
        subst g3 g4
        exact ⟨.inr rfl, rfl, rfl, rfl⟩
    obtain ⟨j1, j2, j3, j4⟩ := hty
    obtain ⟨k1, _, k3⟩ := block_snd hT 64 s5 body s6 h5
    have hex : s5.ex = s.ex := by rw [j2, f2, e2, d2, b2, a2]
    have hst : s5.st = s.st := by rw [j3, f3, e3, d3, b3, a3]
    have hfn : s6.fn = s.fn := by rw [k1.fn, j4, f1.fn, e4, d1.fn, b1.fn, a1.fn]
    have k5 := k1.ex
    have k6 := k1.st
    rw [hex] at k5 k3
    rw [hst] at k6 k3
    unfold putF at h6
    injection h6 with _ h7
    subst h7
    exact ⟨k5, k6, { name := name, params := l, ty := ty, body := body, lo := (cur T s).lo, hi := lastHi T s6 }, (by show s6.fn ++ _ = _; rw [hfn]), (by rw [b4]; exact hT.name s2 b5), e1, j1, k3⟩
theorem programL_snd (hT : Nms nm nu T) : ∀ (n : Nat) {s s1 : Sg} {u : Unit}, FL (FSh nm nu s.ex s.st) s.fn 0 0 s.ex.length s.st.length → programL T n s = .ok u s1 → FL (FSh nm nu s1.ex s1.st) s1.fn 0 0 s1.ex.length s1.st.length
  | 0, _, _, _, _, h => by unfold programL at h; cases h
  | n + 1, s, s1, u, h0, h => by
    unfold programL at h
    by_cases hc : isK T 0 s = true
    · rw [if_pos hc] at h; injection h with h1 h2; rw [← h2]; exact h0
    · rw [if_neg hc] at h
      obtain ⟨_, s2, h1, h2⟩ := bd_inv h
      obtain ⟨a1, a2, f, a3, a4⟩ := functionM_snd hT h1
      refine programL_snd hT n ?_ h2
      rw [a3]
      exact (h0.mono fun _ _ _ _ _ h => h.mono a1 a2).snoc a4
theorem program_snd (hT : Nms nm nu T) {s : Sg} {u : Unit} (h : programM T start = .ok u s) : FL (FSh nm nu s.ex s.st) s.fn 0 0 s.ex.length s.st.length := by
  unfold programM at h
  obtain ⟨_, s2, h1, h2⟩ := bd_inv h
  obtain ⟨_, _, f, a3, a4⟩ := functionM_snd hT h1
  refine programL_snd hT _ ?_ h2
  rw [a3]
  exact ⟨_, _, a4, rfl, rfl⟩

/-- And again of the words. -/
theorem nmTail_go {s0 : Sg} (hst : s0.st.length ≤ 1000) : ∀ (r : List (List UInt8)) (fu : Nat) (out : List (List UInt8)) (p : Nat), out.length ≠ 0 → r.length < fu → Mt T p (nmTail r ++ [(4, [41])]) →
    listL T (takeK T 1) fu out { s0 with at_ := p } = .ok (out ++ r) { s0 with at_ := p + (nmTail r).length }
  | [], fu + 1, out, p, _, _, hM => by
    have h0 := hM.head (s := { s0 with at_ := p }) rfl
    unfold listL
    rw [isP_yes (by rw [h0.2]; decide), if_pos rfl, List.append_nil]
    rfl
  | _, 0, _, _, _, h, _ => absurd h (Nat.not_lt_zero _)
  | a :: r, fu + 1, out, p, ho, hf, hM => by
    have hM' : Mt T p ((4, [44]) :: (1, a) :: (nmTail r ++ [(4, [41])])) := hM
    have h0 := hM'.head (s := { s0 with at_ := p }) rfl
    have h1 := hM'.tail.head (s := { s0 with at_ := p + 1 }) rfl
    have := nmTail_go hst r fu (out ++ [a]) (p + 1 + 1) (by simp) (by simpa using hf) hM'.tail.tail
    unfold listL
    rw [isP_no (by rw [h0.2]; decide), if_neg (by decide), if_neg ho, bd_ok (takeP_go (s := { s0 with at_ := p }) hst (by rw [h0.2]; decide)), bd_ok (takeK_go (s := { s0 with at_ := p + 1 }) hst h1.1), h1.2]
    show listL T (takeK T 1) fu (out ++ [a]) { s0 with at_ := p + 1 + 1 } = _
    rw [this, List.append_assoc, show p + 1 + 1 + (nmTail r).length = p + (nmTail (a :: r)).length by simp [nmTail]; omega]
    rfl
theorem nmTail_len : ∀ r : List (List UInt8), r.length ≤ (nmTail r).length
  | [] => Nat.le_refl _
  | _ :: r => by have := nmTail_len r; simp [nmTail]; omega
theorem nmL_go {dec : Nat → List UInt8} (hn : NmOk nm nu dec) {s0 : Sg} (hst : s0.st.length ≤ 1000) (l : List (List UInt8)) (hl : ∀ p ∈ l, nm p) (p : Nat) {w : Wd} {L : List Wd} (hM : Mt T p ((4, [40]) :: (nmL l ++ (4, [41]) :: w :: L))) :
    listM T (takeK T 1) { s0 with at_ := p } = .ok l { s0 with at_ := p + (1 + (nmL l).length + 1) } := by
  have h0 := hM.head (s := { s0 with at_ := p }) rfl
  have hM1 := hM.tail
  have hM2 := hM1.right
  have hz := hM2.head (s := { s0 with at_ := p + 1 + (nmL l).length }) rfl
  have key : listL T (takeK T 1) (T.length + 1) [] { s0 with at_ := p + 1 } = .ok l { s0 with at_ := p + 1 + (nmL l).length } := by
    cases l with
    | nil =>
      unfold listL
      rw [isP_yes (by rw [show cur T { s0 with at_ := p + 1 } = cur T { s0 with at_ := p + 1 + (nmL ([] : List (List UInt8))).length } from rfl, hz.2]; decide), if_pos rfl]
      rfl
    | cons a r =>
      have hM3 : Mt T (p + 1) ((1, a) :: (nmTail r ++ ((4, [41]) :: w :: L))) := hM1
      have h1 := hM3.head (s := { s0 with at_ := p + 1 }) rfl
      have hM4 : Mt T (p + 1 + 1) ((nmTail r ++ [(4, [41])]) ++ (w :: L)) := by simpa using hM3.tail
      have hna := (hn.name a (hl a (by simp))).2.2.1
      have hf : r.length < T.length := by
        have h2 := nmTail_len r
        have h3 := hM4.right.lt
        simp at h3
        omega
      have := nmTail_go hst r T.length [a] (p + 1 + 1) (by simp) hf hM4.left
      unfold listL
      have hnp : (cur T { s0 with at_ := p + 1 }).txt ∉ ([[41]] : List (List UInt8)) := fun h => hna (by rw [h1.2, List.mem_singleton] at h; rw [show a = [41] from h]; simp)
      rw [isP_no hnp, if_neg (by decide), if_pos (show ([] : List (List UInt8)).length = 0 from rfl), bd_ok (show okP [] { s0 with at_ := p + 1 } = .ok [] _ from rfl), bd_ok (takeK_go (s := { s0 with at_ := p + 1 }) hst h1.1), h1.2]
      show listL T (takeK T 1) T.length [a] { s0 with at_ := p + 1 + 1 } = _
      rw [this, show p + 1 + 1 + (nmTail r).length = p + 1 + (nmL (a :: r)).length by simp [nmL]; omega]
      rfl
  unfold listM
  rw [bd_ok (takeP_go (s := { s0 with at_ := p }) hst (by rw [h0.2]; decide))]
  show bd (listL T (takeK T 1) (T.length + 1) []) _ { s0 with at_ := p + 1 } = _
  rw [bd_ok key, bd_ok (takeP_go (s := { s0 with at_ := p + 1 + (nmL l).length }) hst (by rw [hz.2]; decide))]
  show Rs.ok l { s0 with at_ := p + 1 + (nmL l).length + 1 } = _
  rw [show p + 1 + (nmL l).length + 1 = p + (1 + (nmL l).length + 1) by omega]
variable {dec : Nat → List UInt8} {E : List Ex} {S : List Sm}
/-- A function. -/
theorem function_again (hn : NmOk nm nu dec) (hS : S.length ≤ 1000) {f : Fu} {m0 q0 m1 q1 : Nat} (hf : FSh nm nu E S f m0 q0 m1 q1) {s : Sg} (hB : B2 E S m0 q0 s) (hF : s.fn.length < 32) (hM : Mt T s.at_ (fnW dec E S f)) :
    ∃ s', functionM T s = .ok () s' ∧ s'.at_ = s.at_ + (fnW dec E S f).length ∧ B2 E S m1 q1 s' ∧ ∃ g, s'.fn = s.fn ++ [g] ∧ bareF g = bareF f := by
  have hst := hB.few hS
  unfold fnW at hM ⊢
  obtain ⟨a1, a2⟩ := hM.head (s := s) rfl
  obtain ⟨b1, b2⟩ := hM.tail.head (s := { s with at_ := s.at_ + 1 }) rfl
  obtain ⟨w, L, hw⟩ : ∃ w L, (if f.ty = 1 then [((3, kInt) : Wd)] else []) ++ blW (stW dec E S S.length) f.body = w :: L := by
    by_cases h : f.ty = 1
    · rw [if_pos h]; exact ⟨_, _, rfl⟩
    · rw [if_neg h]; exact ⟨_, _, rfl⟩
  have hM2 : Mt T (s.at_ + 1 + 1) ((4, [40]) :: (nmL f.params ++ (4, [41]) :: w :: L)) := by rw [← hw]; exact hM.tail.tail
  have hl := nmL_go hn (s0 := s) hst f.params hf.params (s.at_ + 1 + 1) hM2
  have hM3 : Mt T (s.at_ + 1 + 1 + (1 + (nmL f.params).length + 1)) ((if f.ty = 1 then [((3, kInt) : Wd)] else []) ++ blW (stW dec E S S.length) f.body) := by
    rw [hw]
    have := hM2.tail.right.tail
    rwa [show s.at_ + 1 + 1 + 1 + (nmL f.params).length + 1 = s.at_ + 1 + 1 + (1 + (nmL f.params).length + 1) by omega] at this
  have hb := hf.body
  have hlt := hb.lt fun _ _ _ _ h => SSh.le h
  -- the type
  obtain ⟨d, hd, hty, hM4⟩ : ∃ d, ((if f.ty = 1 then [((3, kInt) : Wd)] else []) : List Wd).length = d ∧ (fun s1 => if isP T [kInt] s1 then bd (takeP T [kInt]) (fun _ => okP 1) s1 else .ok 4 s1 : Ps Nat) { s with at_ := s.at_ + 1 + 1 + (1 + (nmL f.params).length + 1) } = .ok f.ty { s with at_ := s.at_ + 1 + 1 + (1 + (nmL f.params).length + 1) + d } ∧ Mt T (s.at_ + 1 + 1 + (1 + (nmL f.params).length + 1) + d) (blW (stW dec E S S.length) f.body) := by
    by_cases h : f.ty = 1
    · rw [if_pos h] at hM3 ⊢
      obtain ⟨c1, c2⟩ := Mt.head (w := (3, kInt)) (L := blW (stW dec E S S.length) f.body) hM3 (s := { s with at_ := s.at_ + 1 + 1 + (1 + (nmL f.params).length + 1) }) rfl
      refine ⟨1, rfl, ?_, hM3.right⟩
      dsimp only
      rw [isP_yes (by rw [c2]; decide), if_pos rfl, bd_ok (takeP_go (s := { s with at_ := s.at_ + 1 + 1 + (1 + (nmL f.params).length + 1) }) hst (by rw [c2]; decide)), h]
      rfl
    · rw [if_neg h] at hM3 ⊢
      have h4 : f.ty = 4 := hf.ty.resolve_left h
      obtain ⟨c1, c2⟩ := Mt.head (w := (4, [123])) (L := f.body.flatMap (stW dec E S S.length) ++ [(4, [125])]) hM3 (s := { s with at_ := s.at_ + 1 + 1 + (1 + (nmL f.params).length + 1) }) rfl
      refine ⟨0, rfl, ?_, hM3⟩
      dsimp only
      rw [isP_no (by rw [c2]; decide), if_neg (by decide), h4]
      rfl
  obtain ⟨s1, e1, e2, e3, e4⟩ := blk_again hn hS (k := 64) (by decide) (againS hn hS 64) hb (N := S.length) (fun a ha => by
    have := hlt.2 a ha
    have h2 : q1 ≤ S.length := by
      -- the last statement is one
      have key : ∀ (l : List Nat) (m0 q0 m1 q1 : Nat), q0 ≤ S.length → BL (SSh nm nu E S 64) l m0 q0 m1 q1 → q1 ≤ S.length := by
        intro l
        induction l with
        | nil => intro _ _ _ _ h ⟨_, h2⟩; omega
        | cons a r ih =>
          intro m0 q0 m1 q1 _ ⟨m, h1, h2⟩
          obtain ⟨x, hx, _⟩ := h1
          exact ih m (a + 1) m1 q1 (List.getElem?_eq_some_iff.1 hx).1 h2
      exact key _ _ _ _ _ hB.le hb
    omega) (s := { s with at_ := s.at_ + 1 + 1 + (1 + (nmL f.params).length + 1) + d }) (hB.at_ _) hM4
  have e2' : s1.at_ = s.at_ + 1 + 1 + (1 + (nmL f.params).length + 1) + d + (blW (stW dec E S S.length) f.body).length := e2
  have e4' : s1.fn = s.fn := e4
  refine ⟨{ s1 with fn := s1.fn ++ [{ name := f.name, params := f.params, ty := f.ty, body := f.body, lo := (cur T s).lo, hi := lastHi T s1 }] }, ?_, ?_, ⟨⟨e3.ex.1, e3.ex.2.1, e3.ex.2.2⟩, e3.len, e3.le, e3.st⟩, { name := f.name, params := f.params, ty := f.ty, body := f.body, lo := (cur T s).lo, hi := lastHi T s1 }, (by show s1.fn ++ _ = _; rw [e4']), rfl⟩
  · unfold functionM
    have hne : ¬ ((isP T [kFunc] s && s.fn.length == 32) = true) := by
      rw [Bool.and_eq_true, beq_iff_eq]; omega
    rw [if_neg hne, bd_ok (takeP_go hst (by rw [a2]; decide)), bd_ok (takeK_go (s := { s with at_ := s.at_ + 1 }) hst b1), b2, bd_ok hl, bd_ok hty]
    rw [bd_ok (show blockM T 64 { s with at_ := s.at_ + 1 + 1 + (1 + (nmL f.params).length + 1) + d } = .ok f.body s1 from e1)]
    rfl
  · show s1.at_ = _
    rw [e2', List.length_cons, List.length_cons, List.length_cons, List.length_append, List.length_cons, List.length_append, hd]
    omega
theorem programL_again (hn : NmOk nm nu dec) (hS : S.length ≤ 1000) : ∀ (l : List Fu) (m0 q0 m1 q1 n : Nat) (s : Sg), FL (FSh nm nu E S) l m0 q0 m1 q1 → B2 E S m0 q0 s → s.fn.length + l.length ≤ 32 → l.length < n → Mt T s.at_ (l.flatMap (fnW dec E S) ++ [(0, [])]) →
    ∃ s', programL T n s = .ok () s' ∧ B2 E S m1 q1 s' ∧ ∃ l', s'.fn = s.fn ++ l' ∧ l'.map bareF = l.map bareF
  | _, _, _, _, _, 0, _, _, _, _, h, _ => absurd h (Nat.not_lt_zero _)
  | [], m0, q0, m1, q1, n + 1, s, ⟨h1, h2⟩, hB, _, _, hM => by
    have h0 := hM.head (s := s) rfl
    subst h1 h2
    refine ⟨s, ?_, hB, [], (List.append_nil _).symm, rfl⟩
    unfold programL
    rw [isK_yes h0.1, if_pos rfl]
  | f :: r, m0, q0, m1, q1, n + 1, s, ⟨m, q, h1, h2⟩, hB, hF, hn1, hM => by
    have hM' : Mt T s.at_ (fnW dec E S f ++ (r.flatMap (fnW dec E S) ++ [(0, [])])) := by simpa using hM
    have h0 := Mt.head (w := (3, kFunc)) (L := _) hM'.left (s := s) rfl
    have hF' : s.fn.length + (r.length + 1) ≤ 32 := hF
    obtain ⟨s1, e1, e2, e3, g, e4, e5⟩ := function_again hn hS h1 hB (by omega) hM'.left
    have hM2 := hM'.right
    rw [← e2] at hM2
    obtain ⟨s2, f1, f2, l', f3, f4⟩ := programL_again hn hS r m q m1 q1 n s1 h2 e3 (by rw [e4]; simp; omega) (by simpa using hn1) hM2
    refine ⟨s2, ?_, f2, g :: l', by rw [f3, e4]; simp, by simp [e5, f4]⟩
    unfold programL
    rw [isK_no h0.1 (by decide), if_neg (by decide), bd_ok e1, f1]
/-- A program's words are parsed as it was, but for where its things stand. -/
theorem program_again (hn : NmOk nm nu dec) (hS : S.length ≤ 1000) {F : List Fu} (hF : F.length ≤ 32) (h0 : F ≠ []) (h : FL (FSh nm nu E S) F 0 0 E.length S.length) (hM : Mt T 0 (F.flatMap (fnW dec E S) ++ [(0, [])])) :
    ∃ s, programM T start = .ok () s ∧ s.ex.map bare = E.map bare ∧ s.st.map bareS = S.map bareS ∧ s.fn.map bareF = F.map bareF := by
  cases F with
  | nil => exact absurd rfl h0
  | cons f r =>
    obtain ⟨m, q, h1, h2⟩ := h
    have hM' : Mt T start.at_ (fnW dec E S f ++ (r.flatMap (fnW dec E S) ++ [(0, [])])) := by show Mt T 0 _; simpa using hM
    have hF' : r.length + 1 ≤ 32 := hF
    obtain ⟨s1, e1, e2, e3, g, e4, e5⟩ := function_again hn hS h1 (s := start) ⟨⟨rfl, Nat.zero_le _, by simp [start]⟩, rfl, Nat.zero_le _, by simp [start]⟩ (by decide) hM'.left
    have hM2 := hM'.right
    rw [← e2] at hM2
    have hlen : r.length < T.length + 1 := by
      have key : ∀ r : List Fu, r.length ≤ (r.flatMap (fnW dec E S)).length := by
        intro r
        induction r with
        | nil => exact Nat.le_refl _
        | cons a r ih => rw [List.flatMap_cons, List.length_append, List.length_cons]; have : 0 < (fnW dec E S a).length := by unfold fnW; simp
                         omega
      have h3 := key r
      have h4 := hM2.right.lt
      omega
    obtain ⟨s2, f1, f2, l', f3, f4⟩ := programL_again hn hS r m q _ _ (T.length + 1) s1 h2 e3 (by rw [e4]; simp [start]; omega) hlen hM2
    refine ⟨s2, ?_, ?_, ?_, ?_⟩
    · unfold programM
      rw [bd_ok e1, f1]
    · rw [f2.ex.2.2, List.take_of_length_le (by simp)]
    · rw [f2.st, List.take_of_length_le (by simp)]
    · rw [f3, e4]; simp [start, e5, f4]
end
end Go.Proofs.YtdeflloidhbpmaaGreatDoor

namespace Go.Proofs.YtdeflloidhbpmaaGreatDoor

/-- A name's bytes; a number's. -/
def GN (b : List UInt8) : Prop := (∃ c r, b = c :: r ∧ isLet c = true) ∧ (∀ c ∈ b, isAl c = true) ∧ isW b = false
def GD (b : List UInt8) : Prop := b ≠ [] ∧ (∀ c ∈ b, isDig c = true) ∧ b.length ≤ 18 ∧ (1 < b.length → b.head? ≠ some 48)
/-- No byte stands behind that goes on with letters or digits. -/
def NoAl (q : List UInt8) : Prop := ∀ c, q.head? = some c → isAl c = false
theorem tokL_let {b q : List UInt8} (h1 : ∃ c r, b = c :: r ∧ isLet c = true) (h2 : ∀ c ∈ b, isAl c = true) (hq : NoAl q) : tokL (b ++ q) = (nameK b, b.length) := by
  have hr : run isAl (b ++ q) = b.length := by rw [run_append isAl b q h2, run_zero isAl q hq]; rfl
  have ht : (b ++ q).take b.length = b := List.take_left
  obtain ⟨c, r, rfl, hl⟩ := h1
  rw [List.cons_append] at hr ht ⊢
  simp only [tokL]
  rw [if_pos hl, hr, ht]
theorem tokL_dig {b q : List UInt8} (h : GD b) (hq : NoAl q) : tokL (b ++ q) = (2, b.length) := by
  obtain ⟨h1, h2, h3, h4⟩ := h
  have hd : ∀ c, isDig c = true → isAl c = true := fun c h => by simp [isAl, h]
  have hqd : ∀ c, q.head? = some c → isDig c = false := fun c h => by
    have := hq c h
    rw [Bool.eq_false_iff]
    intro hc
    rw [hd c hc] at this
    cases this
  have hr : run isDig (b ++ q) = b.length := by rw [run_append isDig b q h2, run_zero isDig q hqd]; rfl
  have hnb : numBad (b ++ q) b.length = false := by
    unfold numBad
    have hg : (b ++ q)[b.length]? = q.head? := by rw [List.getElem?_append_right (Nat.le_refl _), Nat.sub_self]; cases q <;> rfl
    rw [hg]
    simp only [Bool.or_eq_false_iff]
    refine ⟨⟨by simpa using h3, ?_⟩, ?_⟩
    · rw [Bool.and_eq_false_iff]
      by_cases hl : 1 < b.length
      · right
        have := h4 hl
        cases b with
        | nil => exact absurd rfl h1
        | cons c r => simpa using this
      · left; simpa using hl
    · cases hh : q.head? with
      | none => rfl
      | some c =>
        have := hq c hh
        simp only [isAl, Bool.or_eq_false_iff] at this
        exact this.1
  cases b with
  | nil => exact absurd rfl h1
  | cons c r =>
    have hc := h2 c (by simp)
    have hl : isLet c = false := by
      have key : ∀ n : Fin 256, isDig (UInt8.ofNat n.1) = true → isLet (UInt8.ofNat n.1) = false := by decide +kernel
      have := key ⟨c.toNat, c.toNat_lt⟩
      simp only [UInt8.ofNat_toNat] at this
      exact this hc
    rw [List.cons_append] at hr hnb ⊢
    simp only [tokL]
    rw [if_neg (by rw [hl]; simp), if_pos hc, hr, hnb]
    simp
theorem tokL_two {b q : List UInt8} (h : b ∈ twoL) : tokL (b ++ q) = (4, b.length) := by
  simp only [twoL, List.mem_cons, List.not_mem_nil, or_false] at h
  rcases h with rfl | rfl | rfl | rfl | rfl | rfl <;> rfl
theorem tokL_one {c : UInt8} {q : List UInt8} (h : [c] ∈ oneL) (hq : ∀ d, q.head? = some d → isTwo [c, d] = false) : tokL ([c] ++ q) = (4, 1) := by
  have key : ∀ b ∈ oneL, isLet (b.headD 0) = false ∧ isDig (b.headD 0) = false := by decide
  obtain ⟨k1, k2⟩ := key _ h
  rw [List.headD_cons] at k1 k2
  have h2 : isTwo ((c :: q).take 2) = false := by
    cases q with
    | nil => rw [Bool.eq_false_iff]; intro h; have := two_len _ h; simp at this
    | cons d r => exact hq d rfl
  have h1 : isOne ((c :: q).take 1) = true := by
    show isOne [c] = true
    unfold isOne
    exact List.contains_iff_mem.2 h
  have hs : signL (c :: q) = 1 := by
    unfold signL
    rw [h2, h1]; rfl
  show tokL (c :: q) = _
  simp only [tokL]
  rw [if_neg (by rw [k1]; simp), if_neg (by rw [k2]; simp), hs]
  rfl

/-- What bounds a word: a blank, or one of some signs. -/
def bnd : List UInt8 := [32, 10, 41, 93, 59, 44, 91, 40]
def Bq (q : List UInt8) : Prop := ∀ d, q.head? = some d → d ∈ bnd
theorem bnd_al : ∀ d ∈ bnd, isAl d = false := by decide
theorem bnd_two {c d : UInt8} (h : d ∈ bnd) : isTwo [c, d] = false := by
  rw [Bool.eq_false_iff]
  intro ht
  have h2 : [c, d] ∈ twoL := by simpa [isTwo] using ht
  have key : ∀ b ∈ twoL, ∀ d ∈ bnd, b[1]? ≠ some d := by decide
  exact key _ h2 d h rfl
/-- A word of the language. -/
inductive Wk (w : Wd) : Prop where
  | name : w.1 = 1 → GN w.2 → Wk w
  | num : w.1 = 2 → GD w.2 → Wk w
  | word : w.1 = 3 → w.2 ∈ wordsL → Wk w
  | one (c : UInt8) : w.1 = 4 → w.2 = [c] → [c] ∈ oneL → Wk w
  | two : w.1 = 4 → w.2 ∈ twoL → Wk w
theorem word_let : ∀ b ∈ wordsL, isLet (b.headD 0) = true ∧ b ≠ [] ∧ ∀ c ∈ b, isAl c = true := by decide
theorem word_K {b : List UInt8} (h : b ∈ wordsL) : nameK b = 3 := by
  unfold nameK isW
  rw [if_pos (List.contains_iff_mem.2 h)]
theorem cons_of {b : List UInt8} (h : b ≠ []) : ∃ c r, b = c :: r ∧ b.headD 0 = c := by
  cases b with
  | nil => exact absurd rfl h
  | cons c r => exact ⟨c, r, rfl, rfl⟩
theorem ap_bnd {w : Wd} {q : List UInt8} (hw : Wk w) (hq : Bq q) : tokL (w.2 ++ q) = (w.1, w.2.length) := by
  have hal : NoAl q := fun c h => bnd_al c (hq c h)
  cases hw with
  | name h1 h2 => rw [tokL_let h2.1 h2.2.1 hal, h1]; unfold nameK; rw [h2.2.2]; rfl
  | num h1 h2 => rw [tokL_dig h2 hal, h1]
  | word h1 h2 =>
    obtain ⟨k1, k2, k3⟩ := word_let _ h2
    obtain ⟨c, r, e, e2⟩ := cons_of k2
    rw [tokL_let ⟨c, r, e, by rw [← e2]; exact k1⟩ k3 hal, h1, word_K h2]
  | one c h1 h2 h3 => rw [h2, tokL_one h3 (fun d hd => bnd_two (hq d hd)), h1]; rfl
  | two h1 h2 => rw [tokL_two h2, h1]
/-- A sign that opens: behind it stands what doesn't begin with =. -/
theorem ap_open {c : UInt8} {q : List UInt8} (hc : c ∈ ([40, 91, 45, 33] : List UInt8)) (hq : q.head? ≠ some 61) : tokL ([c] ++ q) = (4, 1) := by
  have key : ∀ c ∈ ([40, 91, 45, 33] : List UInt8), [c] ∈ oneL := by decide
  refine tokL_one (key c hc) fun d hd => ?_
  rw [Bool.eq_false_iff]
  intro ht
  have h2 : [c, d] ∈ twoL := by simpa [isTwo] using ht
  have k2 : ∀ b ∈ twoL, ∀ c ∈ ([40, 91, 45, 33] : List UInt8), b[0]? = some c → b[1]? = some 61 := by decide
  have := k2 _ h2 c hc rfl
  exact hq (by rw [hd]; simpa using this)
theorem wk_pos {w : Wd} (hw : Wk w) : w.1 ≠ 0 ∧ w.1 ≠ 9 ∧ w.2 ≠ [] := by
  cases hw with
  | name h1 h2 => obtain ⟨c, r, e, _⟩ := h2.1; exact ⟨by omega, by omega, by rw [e]; simp⟩
  | num h1 h2 => exact ⟨by omega, by omega, h2.1⟩
  | word h1 h2 => exact ⟨by omega, by omega, (word_let _ h2).2.1⟩
  | one c h1 h2 => exact ⟨by omega, by omega, by rw [h2]; simp⟩
  | two h1 h2 => exact ⟨by omega, by omega, fun e => by rw [e] at h2; revert h2; decide⟩

/-- Words, and blanks (of kind 9). -/
def wds (P : List Wd) : List Wd := P.filter fun w => w.1 != 9
def byt (P : List Wd) : List UInt8 := P.flatMap (·.2)
theorem wds_app (P Q : List Wd) : wds (P ++ Q) = wds P ++ wds Q := List.filter_append ..
theorem byt_app (P Q : List Wd) : byt (P ++ Q) = byt P ++ byt Q := List.flatMap_append
theorem byt_cons (w : Wd) (P : List Wd) : byt (w :: P) = w.2 ++ byt P := rfl
/-- They are laid well, if such bytes stand behind. -/
def ClF : List Wd → List UInt8 → Prop
  | [], _ => True
  | w :: r, q => ((w.1 = 9 ∧ ∀ c ∈ w.2, isBl c = true) ∨ (w.1 ≠ 0 ∧ w.1 ≠ 9 ∧ w.2 ≠ [] ∧ tokL (w.2 ++ (byt r ++ q)) = (w.1, w.2.length))) ∧ ClF r q
theorem ClF.app : ∀ {P Q : List Wd} {q : List UInt8}, ClF P (byt Q ++ q) → ClF Q q → ClF (P ++ Q) q
  | [], _, _, _, h => h
  | w :: r, Q, q, ⟨h1, h2⟩, h => by
    refine ⟨?_, h2.app h⟩
    rcases h1 with h1 | h1
    · exact .inl h1
    · right
      have e : byt (r ++ Q) ++ q = byt r ++ (byt Q ++ q) := by rw [byt_app, List.append_assoc]
      show w.1 ≠ 0 ∧ w.1 ≠ 9 ∧ w.2 ≠ [] ∧ tokL (w.2 ++ (byt (r ++ Q) ++ q)) = _
      rw [e]; exact h1
theorem clf_gap {g : List UInt8} {P : List Wd} {q : List UInt8} (hg : ∀ c ∈ g, isBl c = true) (h : ClF P q) : ClF ((9, g) :: P) q := ⟨.inl ⟨rfl, hg⟩, h⟩
theorem clf_word {w : Wd} {P : List Wd} {q : List UInt8} (hw : Wk w) (hq : Bq (byt P ++ q)) (h : ClF P q) : ClF (w :: P) q :=
  ⟨.inr ⟨(wk_pos hw).1, (wk_pos hw).2.1, (wk_pos hw).2.2, ap_bnd hw hq⟩, h⟩
theorem clf_open {c : UInt8} {P : List Wd} {q : List UInt8} (hc : c ∈ ([40, 91, 45, 33] : List UInt8)) (hq : (byt P ++ q).head? ≠ some 61) (h : ClF P q) : ClF ((4, [c]) :: P) q :=
  ⟨.inr ⟨(by simp), (by simp), (by simp), ap_open hc hq⟩, h⟩
/-- The tokens of what is laid well are its words. -/
theorem toks_laid (t : List UInt8) : ∀ (P : List Wd) (a : List UInt8), t = a ++ byt P → ClF P [] → ∃ l, toks t a.length = (l, none) ∧ l.map (fun x => ((x.kind, bytesOf t x) : Wd)) = wds P ++ [(0, [])]
  | [], a, ht, _ => by
    have ht' : t = a := by rw [ht]; simp [byt]
    subst ht'
    have e1 : nextT t t.length = ⟨0, t.length, t.length⟩ := by
      simp only [nextT, skipTo_end false t t.length (Nat.le_refl _), List.drop_length, tokL, Nat.add_zero]
    have e2 : nextBad t t.length = false := by unfold nextBad; rw [e1]; simp
    refine ⟨_, toks_end t t.length e2 (by rw [e1]), ?_⟩
    rw [e1]
    simp [wds, bytesOf]
  | w :: r, a, ht, ⟨h1, h2⟩ => by
    have ht2 : t = (a ++ w.2) ++ byt r := by rw [ht, byt_cons, List.append_assoc]
    obtain ⟨l, l1, l2⟩ := toks_laid t r (a ++ w.2) ht2 h2
    have hlen : t.length = a.length + w.2.length + (byt r).length := by rw [ht2, List.length_append, List.length_append]
    have hd : t.drop a.length = w.2 ++ byt r := by rw [ht, byt_cons, List.drop_left]
    rw [List.length_append] at l1
    rcases h1 with ⟨h9, hb⟩ | ⟨h0, h9, hne, htk⟩
    · refine ⟨l, ?_, ?_⟩
      · rw [← l1]
        refine toks_from t _ _ (by omega) (by omega) ?_
        unfold skipTo
        rw [hd, skipL_blanks _ _ hb, show t.drop (a.length + w.2.length) = byt r by rw [ht2, ← List.length_append, List.drop_left]]
        omega
      · rw [l2]
        simp [wds, h9]
    · rw [List.append_nil] at htk
      obtain ⟨k, b⟩ := w
      dsimp only at h0 h9 hne htk hlen hd l1
      cases b with
      | nil => exact absurd rfl hne
      | cons c cs =>
        have hf := tokL_first c (cs ++ byt r) (by rw [← List.cons_append, htk]; exact h0)
        have hs0 : skipL false (c :: cs ++ byt r) = 0 := by
          rw [List.cons_append]
          simp only [skipL]
          rw [if_neg (by rw [hf.1]; simp), if_neg hf.2]
        have e0 : skipTo false t a.length = a.length := by unfold skipTo; rw [hd, hs0, Nat.add_zero]
        have e1 : nextT t a.length = ⟨k, a.length, a.length + (c :: cs).length⟩ := by simp only [nextT, e0, hd, htk]
        have e2 : nextBad t a.length = false := by
          unfold nextBad; rw [e1]
          have : (a.length + (c :: cs).length == a.length) = false := by rw [beq_eq_false_iff_ne, List.length_cons]; omega
          dsimp only
          rw [this]; rfl
        refine ⟨⟨k, a.length, a.length + (c :: cs).length⟩ :: l, ?_, ?_⟩
        · rw [toks_more t a.length (by omega) e2 (by rw [e1]; exact h0), e1]
          dsimp only
          rw [l1]
        · rw [List.map_cons, l2]
          have hbo : bytesOf t ⟨k, a.length, a.length + (c :: cs).length⟩ = c :: cs := by
            unfold bytesOf
            dsimp only
            rw [hd, Nat.add_sub_cancel_left, List.take_left]
          rw [hbo]
          simp [wds, h9]
/-- So the grammar's tokens match them. -/
theorem mt_laid {P : List Wd} (h : ClF P []) : (toks (byt P) 0).2 = none ∧ Mt (tksL (byt P)) 0 (wds P ++ [(0, [])]) := by
  obtain ⟨l, l1, l2⟩ := toks_laid (byt P) P [] rfl h
  have l1' : toks (byt P) 0 = (l, none) := l1
  refine ⟨by rw [l1'], fun j hj => ?_⟩
  have hl : l.length = (wds P ++ [((0, []) : Wd)]).length := by rw [← l2, List.length_map]
  have hj2 : j < l.length := by omega
  refine ⟨tkOf (byt P) l[j], ?_, ?_⟩
  · unfold tksL
    rw [l1', Nat.zero_add]
    simp [hj2]
  · have e : (wds P ++ [((0, []) : Wd)])[j] = (l[j].kind, bytesOf (byt P) l[j]) := by
      have : (wds P ++ [((0, []) : Wd)])[j]? = (l.map (fun x => ((x.kind, bytesOf (byt P) x) : Wd)))[j]? := by rw [l2]
      rw [List.getElem?_eq_getElem hj, List.getElem?_map, List.getElem?_eq_getElem hj2] at this
      exact Option.some.inj this
    rw [e]
    exact ⟨rfl, rfl⟩
end Go.Proofs.YtdeflloidhbpmaaGreatDoor
