/-
  Where a program's statements stand: within the text.
-/
import Derived.Test.YtccmodefjgjpeaaGreatDoorPRes
namespace Go.Proofs.YtccmodefjgjpeaaGreatDoor

/-- All statements stand within so many bytes. -/
structure HiOk (N : Nat) (s : Sg) : Prop where
  st : ∀ x ∈ s.st, x.lo ≤ N ∧ x.hi ≤ N
/-- So do the tokens. -/
def TkHi (T : List Tk) (N : Nat) : Prop := ∀ i, (T.getD i ⟨0, 0, 0, []⟩).lo ≤ N ∧ (T.getD i ⟨0, 0, 0, []⟩).hi ≤ N
/-- A part that leaves it so. -/
def Hk (N : Nat) {α : Type} (Q : α → Prop) (x : Ps α) : Prop := ∀ s a s1, HiOk N s → x s = .ok a s1 → HiOk N s1 ∧ Q a
section
variable {T : List Tk} {N : Nat}
theorem hk_bd {α β : Type} {Q : α → Prop} {R : β → Prop} {x : Ps α} {f : α → Ps β} (hx : Hk N Q x) (hf : ∀ a, Q a → Hk N R (f a)) : Hk N R (bd x f) := by
  intro s b s2 h0 h
  obtain ⟨a, s1, h1, h2⟩ := bd_inv h
  obtain ⟨e1, e2⟩ := hx s a s1 h0 h1
  exact hf a e2 s1 b s2 e1 h2
theorem hk_ok {α : Type} {Q : α → Prop} {a : α} (h : Q a) : Hk N Q (okP a) := by
  intro s b s1 h0 h1
  injection h1 with e1 e2
  subst e1 e2
  exact ⟨h0, h⟩
theorem hk_no {α : Type} {Q : α → Prop} {c i : Sg → Nat} : Hk N Q (fun s => .no (c s) (i s) : Ps α) := fun s a s1 _ h => by cases h
theorem hk_if {α : Type} {Q : α → Prop} {b : Sg → Bool} {x y : Ps α} (hx : Hk N Q x) (hy : Hk N Q y) : Hk N Q (fun s => if b s then x s else y s) := by
  intro s a s1 h0 h
  by_cases hb : b s = true
  · exact hx s a s1 h0 (by simpa [hb] using h)
  · exact hy s a s1 h0 (by simpa [hb] using h)
theorem hk_at {α : Type} {Q : α → Prop} {x : Sg → Ps α} (h : ∀ s0, Hk N Q (x s0)) : Hk N Q (fun s => x s s) := fun s a s1 h0 h1 => h s s a s1 h0 h1
theorem Hk.mono {α : Type} {Q R : α → Prop} {x : Ps α} (h : Hk N Q x) (hQ : ∀ a, Q a → R a) : Hk N R x := fun s a s1 h0 h1 => ⟨(h s a s1 h0 h1).1, hQ a (h s a s1 h0 h1).2⟩
def AnyH {α : Type} (_ : α) : Prop := True
theorem hk_next : Hk N AnyH (nextP T) := by
  intro s a s1 h0 h
  unfold nextP at h
  by_cases hm : 1000 < s.st.length
  · rw [if_pos hm] at h; cases h
  · rw [if_neg hm] at h
    injection h with h1 h2
    subst h2
    exact ⟨⟨h0.st⟩, True.intro⟩
theorem hk_takeP (l : List (List UInt8)) : Hk N AnyH (takeP T l) := hk_if hk_next (hk_no (c := fun _ => 3) (i := fun s => s.at_))
theorem hk_takeK (k : Nat) : Hk N AnyH (takeK T k) := hk_if hk_next (hk_no (c := fun _ => 3) (i := fun s => s.at_))
theorem hk_putE (lo : Nat) (x : Ex) : Hk N AnyH (putE T lo x) := by
  intro s a s1 h0 h
  unfold putE at h
  injection h with h1 h2
  subst h2
  exact ⟨⟨h0.st⟩, True.intro⟩
theorem hk_putS (hT : TkHi T N) {lo : Nat} (hlo : lo ≤ N) (x : Sm) : Hk N AnyH (putS T lo x) := by
  intro s a s1 h0 h
  unfold putS at h
  injection h with h1 h2
  subst h2
  refine ⟨⟨fun y hy => ?_⟩, True.intro⟩
  rcases List.mem_append.1 hy with hy | hy
  · exact h0.st y hy
  · rw [List.mem_singleton] at hy; subst hy; exact ⟨hlo, (hT _).2⟩
theorem hk_putF (lo : Nat) (x : Fu) : Hk N AnyH (putF T lo x) := by
  intro s a s1 h0 h
  unfold putF at h
  injection h with h1 h2
  subst h2
  exact ⟨⟨h0.st⟩, True.intro⟩
/-- A list has no more things than fuel. -/
theorem hk_listL {α : Type} {one : Ps α} (h1 : Hk N AnyH one) : ∀ k (out : List α), Hk N (fun l => l.length ≤ out.length + k) (listL T one k out)
  | 0, _ => hk_no (c := fun _ => 0) (i := fun _ => 0)
  | k + 1, out => by
    refine hk_if (x := Rs.ok out) (hk_ok (by omega)) ?_
    refine hk_bd (Q := AnyH) (by by_cases h : out.length = 0 <;> simp only [h, if_true, if_false] <;> first | exact hk_ok True.intro | exact hk_takeP _) fun _ _ => hk_bd h1 fun x _ => (hk_listL h1 k (out ++ [x])).mono fun l hl => ?_
    rw [List.length_append] at hl
    simp at hl
    omega
theorem hk_list {α : Type} {one : Ps α} (h1 : Hk N AnyH one) (hN : T.length + 1 ≤ N) : Hk N (fun l => l.length ≤ N) (listM T one) :=
  hk_bd (hk_takeP _) fun _ _ => hk_bd (hk_listL h1 _ []) fun l hl => hk_bd (hk_takeP _) fun _ _ => hk_ok (by simp at hl; omega)
theorem hk_pair {part : Ps Nat} (h : Hk N AnyH part) (lo a : Nat) : Hk N AnyH (pairM T part lo a) := hk_bd hk_next fun _ _ => hk_bd h fun _ _ => hk_putE _ _
theorem hk_rowL {part : Ps Nat} (h : Hk N AnyH part) (signs : List (List UInt8)) (lo : Nat) : ∀ k a, Hk N AnyH (rowL T part signs lo k a)
  | 0, _ => hk_no (c := fun _ => 0) (i := fun _ => 0)
  | k + 1, a => hk_if (x := bd (pairM T part lo a) (rowL T part signs lo k)) (y := Rs.ok a) (hk_bd (hk_pair h lo a) fun b _ => hk_rowL h signs lo k b) (hk_ok True.intro)
theorem hk_row {part : Ps Nat} (h : Hk N AnyH part) (signs : List (List UInt8)) : Hk N AnyH (rowM T part signs) := hk_at (x := fun s => bd part (rowL T part signs (cur T s).lo (T.length + 1))) fun _ => hk_bd h fun a _ => hk_rowL h signs _ _ a
theorem hk_comparison {op : Ps Nat} (h : Hk N AnyH op) : Hk N AnyH (comparisonM T op) :=
  hk_at (x := fun s => bd (sumM T op) (fun a s1 => if isP T sgCmp s1 then pairM T (sumM T op) (cur T s).lo a s1 else .ok a s1)) fun s =>
    hk_bd (hk_row (hk_row h _) _) fun a _ => hk_if (x := pairM T (sumM T op) (cur T s).lo a) (y := Rs.ok a) (hk_pair (hk_row (hk_row h _) _) _ _) (hk_ok True.intro)
theorem hk_expression {op : Ps Nat} (h : Hk N AnyH op) : Hk N AnyH (expressionM T op) := hk_row (hk_row (hk_comparison h) _) _
theorem hk_number : Hk N AnyH (numberM T) := hk_bd (hk_takeK _) fun _ _ => hk_ok True.intro
theorem hk_index {e : Ps Nat} (h : Hk N AnyH e) : Hk N AnyH (indexM T e) := hk_bd (hk_takeP _) fun _ _ => hk_bd h fun _ _ => hk_bd (hk_takeP _) fun _ _ => hk_ok True.intro
theorem hk_call (hN : T.length + 1 ≤ N) {sub : Ps Nat} (h : Hk N AnyH sub) (lo : Nat) (name : List UInt8) : Hk N AnyH (callM T sub lo name) := hk_bd (hk_list (hk_expression h) hN) fun _ _ => hk_putE _ _
theorem hk_reference (hN : T.length + 1 ≤ N) {sub : Ps Nat} (h : Hk N AnyH sub) : Hk N AnyH (referenceM T sub) :=
  hk_at (x := fun s => bd (takeK T 1) (fun name s1 =>
  if isP T [[40]] s1 then callM T sub (cur T s).lo name s1
  else if isP T [[91]] s1 then bd (indexM T (expressionM T sub)) (fun a => putE T (cur T s).lo { kind := 5, name := name, a := a }) s1
  else putE T (cur T s).lo { kind := 4, name := name } s1)) fun s => hk_bd (hk_takeK _) fun name _ =>
    hk_if (x := callM T sub (cur T s).lo name) (hk_call hN h _ _) (hk_if (x := bd (indexM T (expressionM T sub)) (fun a => putE T (cur T s).lo { kind := 5, name := name, a := a })) (hk_bd (hk_index (hk_expression h)) fun _ _ => hk_putE _ _) (hk_putE _ _))
theorem hk_word : Hk N AnyH (wordM T) := hk_at (x := fun s => bd (takeP T [kTrue, kFalse, kRead]) (fun x => putE T (cur T s).lo { kind := if x = kTrue then 2 else if x = kFalse then 3 else 7 })) fun _ => hk_bd (hk_takeP _) fun _ _ => hk_putE _ _
theorem hk_operandS (hN : T.length + 1 ≤ N) {sub : Ps Nat} (h : Hk N AnyH sub) : Hk N AnyH (operandS T sub) :=
  hk_at (x := fun s0 s =>
  if isP T [[45], [33]] s then bd (nextP T) (fun o => bd sub fun a => putE T (cur T s0).lo { kind := 8, op := o, a := a }) s
  else if isP T [[40]] s then bd (takeP T [[40]]) (fun _ => bd (expressionM T sub) fun a => bd (takeP T [[41]]) fun _ => okP a) s
  else if isK T 1 s then referenceM T sub s
  else if isK T 2 s then bd (numberM T) (fun n => putE T (cur T s0).lo { kind := 1, num := n }) s
  else wordM T s) fun s0 =>
    hk_if (x := bd (nextP T) (fun o => bd sub fun a => putE T (cur T s0).lo { kind := 8, op := o, a := a })) (hk_bd hk_next fun _ _ => hk_bd h fun _ _ => hk_putE _ _)
      (hk_if (x := bd (takeP T [[40]]) (fun _ => bd (expressionM T sub) fun a => bd (takeP T [[41]]) fun _ => okP a)) (hk_bd (hk_takeP _) fun _ _ => hk_bd (hk_expression h) fun _ _ => hk_bd (hk_takeP _) fun _ _ => hk_ok True.intro)
        (hk_if (x := referenceM T sub) (hk_reference hN h) (hk_if (x := bd (numberM T) (fun n => putE T (cur T s0).lo { kind := 1, num := n })) (hk_bd hk_number fun _ _ => hk_putE _ _) hk_word)))
theorem hk_operand (hN : T.length + 1 ≤ N) : ∀ k, Hk N AnyH (operandM T k)
  | 0 => hk_no (c := fun _ => 4) (i := fun s => s.at_)
  | k + 1 => hk_operandS hN (hk_operand hN k)
theorem hk_blockL {one : Ps Nat} (h1 : Hk N AnyH one) : ∀ k (out : List Nat), Hk N (fun l => l.length ≤ out.length + k) (blockL T one k out)
  | 0, _ => hk_no (c := fun _ => 0) (i := fun _ => 0)
  | k + 1, out => by
    refine hk_if (x := Rs.ok out) (hk_ok (by omega)) (hk_bd h1 fun x _ => (hk_blockL h1 k (out ++ [x])).mono fun l hl => ?_)
    rw [List.length_append] at hl
    simp at hl
    omega
theorem hk_blkOf {one : Ps Nat} (h1 : Hk N AnyH one) (hN : T.length + 1 ≤ N) (k : Nat) : Hk N (fun l => l.length ≤ N) (blkOf T k one) := by
  unfold blkOf
  by_cases h : k = 0
  · rw [if_pos h]; exact hk_no (c := fun _ => 4) (i := fun s => s.at_)
  · rw [if_neg h]; exact hk_bd (hk_takeP _) fun _ _ => hk_bd (hk_blockL h1 _ []) fun l hl => hk_bd (hk_takeP _) fun _ _ => hk_ok (by simp at hl; omega)
def SmH (N : Nat) (x : Sm) : Prop := x.thn.length ≤ N ∧ x.els.length ≤ N
theorem hk_otherwise {blk : Ps (List Nat)} {stm : Ps Nat} (hN : 1 ≤ N) (hb : Hk N (fun l => l.length ≤ N) blk) (hs : Hk N AnyH stm) : Hk N (fun l => l.length ≤ N) (otherwiseM T blk stm) :=
  hk_if (x := bd stm (fun i => okP [i])) (hk_bd hs fun _ _ => hk_ok hN) hb
theorem hk_choice {ex : Ps Nat} {blk : Ps (List Nat)} {stm : Ps Nat} (hN : 1 ≤ N) (he : Hk N AnyH ex) (hb : Hk N (fun l => l.length ≤ N) blk) (hs : Hk N AnyH stm) : Hk N (SmH N) (choiceM T ex blk stm) :=
  hk_bd (hk_takeP _) fun _ _ => hk_bd he fun a _ => hk_bd hb fun l hl =>
    hk_if (α := Sm) (Q := SmH N) (x := bd (takeP T [kElse]) (fun _ => bd (otherwiseM T blk stm) fun m => okP { kind := 5, a := a, thn := l, els := m })) (y := Rs.ok { kind := 5, a := a, thn := l }) (hk_bd (hk_takeP _) fun _ _ => hk_bd (hk_otherwise hN hb hs) fun _ hm => hk_ok ⟨hl, hm⟩) (hk_ok ⟨hl, Nat.zero_le _⟩)
theorem hk_loop {ex : Ps Nat} {blk : Ps (List Nat)} (he : Hk N AnyH ex) (hb : Hk N (fun l => l.length ≤ N) blk) : Hk N (SmH N) (loopM T ex blk) :=
  hk_bd (hk_takeP _) fun _ _ => hk_bd he fun _ _ => hk_bd hb fun _ hl => hk_ok ⟨hl, Nat.zero_le _⟩
theorem hk_named (hN : T.length + 1 ≤ N) {ex sub : Ps Nat} (he : Hk N AnyH ex) (hs : Hk N AnyH sub) : Hk N (SmH N) (namedM T ex sub) :=
  hk_at (α := Sm) (Q := SmH N) (x := fun s => bd (takeK T 1) (fun name s1 =>
  if isP T [[40]] s1 then bd (callM T sub (cur T s).lo name) (fun a => okP { kind := 11, a := a }) s1
  else if isP T [[91]] s1 then bd (indexM T ex) (fun a => bd (takeP T [[61]]) fun _ => bd ex fun b => okP { kind := 4, name := name, a := a, b := b }) s1
  else bd (takeP T [[61]]) (fun _ => bd ex fun a => okP { kind := 3, name := name, a := a }) s1)) fun s => hk_bd (hk_takeK _) fun name _ =>
    hk_if (α := Sm) (Q := SmH N) (x := bd (callM T sub (cur T s).lo name) (fun a => okP { kind := 11, a := a })) (hk_bd (hk_call hN hs _ _) fun _ _ => hk_ok ⟨Nat.zero_le _, Nat.zero_le _⟩)
      (hk_if (α := Sm) (Q := SmH N) (x := bd (indexM T ex) (fun a => bd (takeP T [[61]]) fun _ => bd ex fun b => okP { kind := 4, name := name, a := a, b := b })) (hk_bd (hk_index he) fun _ _ => hk_bd (hk_takeP _) fun _ _ => hk_bd he fun _ _ => hk_ok ⟨Nat.zero_le _, Nat.zero_le _⟩)
        (hk_bd (hk_takeP _) fun _ _ => hk_bd he fun _ _ => hk_ok ⟨Nat.zero_le _, Nat.zero_le _⟩))
theorem hk_variable {ex : Ps Nat} (he : Hk N AnyH ex) : Hk N (SmH N) (variableM T ex) :=
  hk_bd (hk_takeP _) fun _ _ => hk_bd (hk_takeK _) fun _ _ => hk_bd (hk_takeP _) fun x _ => by
    by_cases h : x = [61]
    · rw [if_pos h]; exact hk_bd he fun _ _ => hk_ok ⟨Nat.zero_le _, Nat.zero_le _⟩
    · rw [if_neg h]; exact hk_bd hk_number fun _ _ => hk_bd (hk_takeP _) fun _ _ => hk_ok ⟨Nat.zero_le _, Nat.zero_le _⟩
theorem hk_answer {ex : Ps Nat} (he : Hk N AnyH ex) : Hk N (SmH N) (answerM T ex) :=
  hk_bd (hk_takeP _) fun _ _ => hk_if (α := Sm) (Q := SmH N) (x := Rs.ok { kind := 9, a := -1 }) (hk_ok ⟨Nat.zero_le _, Nat.zero_le _⟩) (hk_bd he fun _ _ => hk_ok ⟨Nat.zero_le _, Nat.zero_le _⟩)
theorem hk_simple (hN : T.length + 1 ≤ N) {ex sub : Ps Nat} (he : Hk N AnyH ex) (hs : Hk N AnyH sub) : Hk N (SmH N) (simpleM T ex sub) :=
  hk_if (α := Sm) (Q := SmH N) (x := namedM T ex sub) (hk_named hN he hs) (hk_if (α := Sm) (Q := SmH N) (x := variableM T ex) (hk_variable he) (hk_if (α := Sm) (Q := SmH N) (x := answerM T ex) (hk_answer he)
    (hk_if (α := Sm) (Q := SmH N) (x := bd (takeP T [kPrint]) (fun _ => bd ex fun a => okP { kind := 10, a := a })) (hk_bd (hk_takeP _) fun _ _ => hk_bd he fun _ _ => hk_ok ⟨Nat.zero_le _, Nat.zero_le _⟩) (hk_bd (hk_takeP _) fun _ _ => hk_ok ⟨Nat.zero_le _, Nat.zero_le _⟩))))
theorem hk_fields (hN : T.length + 1 ≤ N) {ex sub : Ps Nat} {blk : Ps (List Nat)} {stm : Ps Nat} (he : Hk N AnyH ex) (hu : Hk N AnyH sub) (hb : Hk N (fun l => l.length ≤ N) blk) (hs : Hk N AnyH stm) : Hk N (SmH N) (fieldsM T ex sub blk stm) :=
  hk_if (x := choiceM T ex blk stm) (hk_choice (by omega) he hb hs) (hk_if (x := loopM T ex blk) (hk_loop he hb) (hk_bd (hk_simple hN he hu) fun _ hx => hk_bd (hk_takeP _) fun _ _ => hk_ok hx))
theorem hk_stmtS (hT : TkHi T N) (hN : T.length + 1 ≤ N) {ex sub : Ps Nat} {blk : Ps (List Nat)} {stm : Ps Nat} (he : Hk N AnyH ex) (hu : Hk N AnyH sub) (hb : Hk N (fun l => l.length ≤ N) blk) (hs : Hk N AnyH stm) : Hk N AnyH (stmtS T ex sub blk stm) :=
  hk_at (x := fun s => bd (fieldsM T ex sub blk stm) (putS T (cur T s).lo)) fun _ => hk_bd (hk_fields hN he hu hb hs) fun _ _ => hk_putS hT (hT _).1 _
theorem hk_stmt (hT : TkHi T N) (hN : T.length + 1 ≤ N) : ∀ k, Hk N AnyH (stmtM T k)
  | 0 => hk_no (c := fun _ => 4) (i := fun s => s.at_)
  | k + 1 => hk_stmtS hT hN (hk_expression (hk_operand hN (k + 1))) (hk_operand hN k) (hk_blkOf (hk_stmt hT hN k) hN k) (hk_stmt hT hN k)
theorem hk_function (hT : TkHi T N) (hN : T.length + 1 ≤ N) : Hk N AnyH (functionM T) :=
  hk_at (x := fun s0 s =>
  if isP T [kFunc] s && s.fn.length == 32 then .no 5 s.at_
  else bd (takeP T [kFunc]) (fun _ => bd (takeK T 1) fun name => bd (listM T (takeK T 1)) fun ps => bd (fun s1 => if isP T [kInt] s1 then bd (takeP T [kInt]) (fun _ => okP 1) s1 else .ok 4 s1) fun ty => bd (blockM T 64) fun body => putF T (cur T s0).lo { name := name, params := ps, ty := ty, body := body }) s) fun _ =>
    hk_if (b := fun s => isP T [kFunc] s && s.fn.length == 32) (hk_no (c := fun _ => 5) (i := fun s => s.at_))
      (hk_bd (hk_takeP _) fun _ _ => hk_bd (hk_takeK _) fun _ _ => hk_bd (hk_list (hk_takeK _) hN) fun _ _ => hk_bd (Q := AnyH) (hk_if (x := bd (takeP T [kInt]) (fun _ => okP 1)) (y := Rs.ok 4) (hk_bd (hk_takeP _) fun _ _ => hk_ok True.intro) (hk_ok True.intro)) fun _ _ => hk_bd (hk_blkOf (hk_stmt hT hN 64) hN 64) fun _ _ => hk_putF _ _)
theorem hk_programL (hT : TkHi T N) (hN : T.length + 1 ≤ N) : ∀ k, Hk N AnyH (programL T k)
  | 0 => hk_no (c := fun _ => 0) (i := fun _ => 0)
  | k + 1 => hk_if (x := Rs.ok ()) (hk_ok True.intro) (hk_bd (hk_function hT hN) fun _ _ => hk_programL hT hN k)
end
theorem tks_hi (t : List UInt8) (h : (toks t 0).2 = none) : TkHi (tksL t) (t.length + 2) := by
  obtain ⟨pre, hp, hq⟩ := toks_tk t h
  intro i
  rcases Nat.lt_or_ge i (tksL t).length with hlt | hge
  · have hm : (tksL t)[i] ∈ tksL t := List.getElem_mem hlt
    rw [List.getD_eq_getElem?_getD, List.getElem?_eq_getElem hlt, Option.getD_some]
    generalize (tksL t)[i] = x at hm ⊢
    unfold tksL at hm
    rw [hp] at hm
    obtain ⟨y, hy, rfl⟩ := List.mem_map.1 hm
    rcases List.mem_append.1 hy with h | h
    · obtain ⟨_, a2, a3, _⟩ := hq y h
      exact ⟨by show y.lo ≤ _; omega, by show y.hi ≤ _; omega⟩
    · simp at h; subst h; exact ⟨by show t.length ≤ _; omega, by show t.length ≤ _; omega⟩
  · rw [List.getD_eq_getElem?_getD, List.getElem?_eq_none hge]
    exact ⟨Nat.zero_le _, Nat.zero_le _⟩
theorem parse_hi {t : List UInt8} {s : Sg} (h : parseT t = .good s) : ∀ i (h : i < s.st.length), s.st[i].lo ≤ t.length + 2 ∧ s.st[i].hi ≤ t.length + 2 := by
  unfold parseT at h
  cases hp : (toks t 0).2 with
  | some p => rw [hp] at h; cases h
  | none =>
    rw [hp] at h
    dsimp only at h
    have hl : (tksL t).length + 1 ≤ t.length + 2 := by
      have := toks_len' t
      unfold tksL
      simp; omega
    have hT := tks_hi t hp
    cases hr : programM (tksL t) start with
    | no c i => rw [hr] at h; cases h
    | ok u s' =>
      rw [hr] at h
      injection h with h1
      subst h1
      unfold programM at hr
      have := (hk_bd (hk_function hT hl) (fun _ _ => hk_programL hT hl _) start u s' ⟨fun x h => by simp [start] at h⟩ hr).1.st
      exact fun i hi => this _ (List.getElem_mem hi)
end Go.Proofs.YtccmodefjgjpeaaGreatDoor
