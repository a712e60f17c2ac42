/-
  How long a program's lists are: no longer than there are tokens.
-/
import Derived.Test.YtccmodefjgjpeaaGreatDoorPRes
namespace Go.Proofs.YtccmodefjgjpeaaGreatDoor

/-- All lists have so many things at most. -/
structure LenOk (N : Nat) (s : Sg) : Prop where
  ex : ∀ x ∈ s.ex, x.list.length ≤ N
  st : ∀ x ∈ s.st, x.thn.length ≤ N ∧ x.els.length ≤ N
  fn : ∀ x ∈ s.fn, x.params.length ≤ N ∧ x.body.length ≤ N
/-- A part that leaves it so. -/
def Lk (N : Nat) {α : Type} (Q : α → Prop) (x : Ps α) : Prop := ∀ s a s1, LenOk N s → x s = .ok a s1 → LenOk N s1 ∧ Q a
section
variable {T : List Tk} {N : Nat}
theorem lk_bd {α β : Type} {Q : α → Prop} {R : β → Prop} {x : Ps α} {f : α → Ps β} (hx : Lk N Q x) (hf : ∀ a, Q a → Lk N R (f a)) : Lk N R (bd x f) := by
  intro s b s2 h0 h
  obtain ⟨a, s1, h1, h2⟩ := bd_inv h
  obtain ⟨e1, e2⟩ := hx s a s1 h0 h1
  exact hf a e2 s1 b s2 e1 h2
theorem lk_ok {α : Type} {Q : α → Prop} {a : α} (h : Q a) : Lk N Q (okP a) := by
  intro s b s1 h0 h1
  injection h1 with e1 e2
  subst e1 e2
  exact ⟨h0, h⟩
theorem lk_no {α : Type} {Q : α → Prop} {c i : Sg → Nat} : Lk N Q (fun s => .no (c s) (i s) : Ps α) := fun s a s1 _ h => by cases h
theorem lk_if {α : Type} {Q : α → Prop} {b : Sg → Bool} {x y : Ps α} (hx : Lk N Q x) (hy : Lk N Q y) : Lk N Q (fun s => if b s then x s else y s) := by
  intro s a s1 h0 h
  by_cases hb : b s = true
  · exact hx s a s1 h0 (by simpa [hb] using h)
  · exact hy s a s1 h0 (by simpa [hb] using h)
theorem lk_at {α : Type} {Q : α → Prop} {x : Sg → Ps α} (h : ∀ s0, Lk N Q (x s0)) : Lk N Q (fun s => x s s) := fun s a s1 h0 h1 => h s s a s1 h0 h1
theorem Lk.mono {α : Type} {Q R : α → Prop} {x : Ps α} (h : Lk N Q x) (hQ : ∀ a, Q a → R a) : Lk N R x := fun s a s1 h0 h1 => ⟨(h s a s1 h0 h1).1, hQ a (h s a s1 h0 h1).2⟩
def Any {α : Type} (_ : α) : Prop := True
theorem lk_next : Lk N Any (nextP T) := by
  intro s a s1 h0 h
  unfold nextP at h
  by_cases hm : 1000 < s.st.length
  · rw [if_pos hm] at h; cases h
  · rw [if_neg hm] at h
    injection h with h1 h2
    subst h2
    exact ⟨⟨h0.ex, h0.st, h0.fn⟩, True.intro⟩
theorem lk_takeP (l : List (List UInt8)) : Lk N Any (takeP T l) := lk_if lk_next (lk_no (c := fun _ => 3) (i := fun s => s.at_))
theorem lk_takeK (k : Nat) : Lk N Any (takeK T k) := lk_if lk_next (lk_no (c := fun _ => 3) (i := fun s => s.at_))
theorem lk_putE (lo : Nat) {x : Ex} (hx : x.list.length ≤ N) : Lk N Any (putE T lo x) := by
  intro s a s1 h0 h
  unfold putE at h
  injection h with h1 h2
  subst h2
  refine ⟨⟨fun y hy => ?_, h0.st, h0.fn⟩, True.intro⟩
  rcases List.mem_append.1 hy with hy | hy
  · exact h0.ex y hy
  · rw [List.mem_singleton] at hy; subst hy; exact hx
theorem lk_putS (lo : Nat) {x : Sm} (hx : x.thn.length ≤ N ∧ x.els.length ≤ N) : Lk N Any (putS T lo x) := by
  intro s a s1 h0 h
  unfold putS at h
  injection h with h1 h2
  subst h2
  refine ⟨⟨h0.ex, fun y hy => ?_, h0.fn⟩, True.intro⟩
  rcases List.mem_append.1 hy with hy | hy
  · exact h0.st y hy
  · rw [List.mem_singleton] at hy; subst hy; exact hx
theorem lk_putF (lo : Nat) {x : Fu} (hx : x.params.length ≤ N ∧ x.body.length ≤ N) : Lk N Any (putF T lo x) := by
  intro s a s1 h0 h
  unfold putF at h
  injection h with h1 h2
  subst h2
  refine ⟨⟨h0.ex, h0.st, fun y hy => ?_⟩, True.intro⟩
  rcases List.mem_append.1 hy with hy | hy
  · exact h0.fn y hy
  · rw [List.mem_singleton] at hy; subst hy; exact hx
/-- A list has no more things than fuel. -/
theorem lk_listL {α : Type} {one : Ps α} (h1 : Lk N Any one) : ∀ k (out : List α), Lk N (fun l => l.length ≤ out.length + k) (listL T one k out)
  | 0, _ => lk_no (c := fun _ => 0) (i := fun _ => 0)
  | k + 1, out => by
    refine lk_if (x := Rs.ok out) (lk_ok (by omega)) ?_
    refine lk_bd (Q := Any) (by by_cases h : out.length = 0 <;> simp only [h, if_true, if_false] <;> first | exact lk_ok True.intro | exact lk_takeP _) fun _ _ => lk_bd h1 fun x _ => (lk_listL h1 k (out ++ [x])).mono fun l hl => ?_
    rw [List.length_append] at hl
    simp at hl
    omega
theorem lk_list {α : Type} {one : Ps α} (h1 : Lk N Any one) (hN : T.length + 1 ≤ N) : Lk N (fun l => l.length ≤ N) (listM T one) :=
  lk_bd (lk_takeP _) fun _ _ => lk_bd (lk_listL h1 _ []) fun l hl => lk_bd (lk_takeP _) fun _ _ => lk_ok (by simp at hl; omega)
theorem lk_pair {part : Ps Nat} (h : Lk N Any part) (lo a : Nat) : Lk N Any (pairM T part lo a) := lk_bd lk_next fun _ _ => lk_bd h fun _ _ => lk_putE _ (Nat.zero_le _)
theorem lk_rowL {part : Ps Nat} (h : Lk N Any part) (signs : List (List UInt8)) (lo : Nat) : ∀ k a, Lk N Any (rowL T part signs lo k a)
  | 0, _ => lk_no (c := fun _ => 0) (i := fun _ => 0)
  | k + 1, a => lk_if (x := bd (pairM T part lo a) (rowL T part signs lo k)) (y := Rs.ok a) (lk_bd (lk_pair h lo a) fun b _ => lk_rowL h signs lo k b) (lk_ok True.intro)
theorem lk_row {part : Ps Nat} (h : Lk N Any part) (signs : List (List UInt8)) : Lk N Any (rowM T part signs) := lk_at (x := fun s => bd part (rowL T part signs (cur T s).lo (T.length + 1))) fun _ => lk_bd h fun a _ => lk_rowL h signs _ _ a
theorem lk_comparison {op : Ps Nat} (h : Lk N Any op) : Lk N Any (comparisonM T op) :=
  lk_at (x := fun s => bd (sumM T op) (fun a s1 => if isP T sgCmp s1 then pairM T (sumM T op) (cur T s).lo a s1 else .ok a s1)) fun s =>
    lk_bd (lk_row (lk_row h _) _) fun a _ => lk_if (x := pairM T (sumM T op) (cur T s).lo a) (y := Rs.ok a) (lk_pair (lk_row (lk_row h _) _) _ _) (lk_ok True.intro)
theorem lk_expression {op : Ps Nat} (h : Lk N Any op) : Lk N Any (expressionM T op) := lk_row (lk_row (lk_comparison h) _) _
theorem lk_number : Lk N Any (numberM T) := lk_bd (lk_takeK _) fun _ _ => lk_ok True.intro
theorem lk_index {e : Ps Nat} (h : Lk N Any e) : Lk N Any (indexM T e) := lk_bd (lk_takeP _) fun _ _ => lk_bd h fun _ _ => lk_bd (lk_takeP _) fun _ _ => lk_ok True.intro
theorem lk_call (hN : T.length + 1 ≤ N) {sub : Ps Nat} (h : Lk N Any sub) (lo : Nat) (name : List UInt8) : Lk N Any (callM T sub lo name) := lk_bd (lk_list (lk_expression h) hN) fun _ hl => lk_putE _ hl
theorem lk_reference (hN : T.length + 1 ≤ N) {sub : Ps Nat} (h : Lk N Any sub) : Lk N Any (referenceM T sub) :=
  lk_at (x := fun s => bd (takeK T 1) (fun name s1 =>
  if isP T [[40]] s1 then callM T sub (cur T s).lo name s1
  else if isP T [[91]] s1 then bd (indexM T (expressionM T sub)) (fun a => putE T (cur T s).lo { kind := 5, name := name, a := a }) s1
  else putE T (cur T s).lo { kind := 4, name := name } s1)) fun s => lk_bd (lk_takeK _) fun name _ =>
    lk_if (x := callM T sub (cur T s).lo name) (lk_call hN h _ _) (lk_if (x := bd (indexM T (expressionM T sub)) (fun a => putE T (cur T s).lo { kind := 5, name := name, a := a })) (lk_bd (lk_index (lk_expression h)) fun _ _ => lk_putE _ (Nat.zero_le _)) (lk_putE _ (Nat.zero_le _)))
theorem lk_word : Lk N Any (wordM T) := lk_at (x := fun s => bd (takeP T [kTrue, kFalse, kRead]) (fun x => putE T (cur T s).lo { kind := if x = kTrue then 2 else if x = kFalse then 3 else 7 })) fun _ => lk_bd (lk_takeP _) fun _ _ => lk_putE _ (Nat.zero_le _)
theorem lk_operandS (hN : T.length + 1 ≤ N) {sub : Ps Nat} (h : Lk N Any sub) : Lk N Any (operandS T sub) :=
  lk_at (x := fun s0 s =>
  if isP T [[45], [33]] s then bd (nextP T) (fun o => bd sub fun a => putE T (cur T s0).lo { kind := 8, op := o, a := a }) s
  else if isP T [[40]] s then bd (takeP T [[40]]) (fun _ => bd (expressionM T sub) fun a => bd (takeP T [[41]]) fun _ => okP a) s
  else if isK T 1 s then referenceM T sub s
  else if isK T 2 s then bd (numberM T) (fun n => putE T (cur T s0).lo { kind := 1, num := n }) s
  else wordM T s) fun s0 =>
    lk_if (x := bd (nextP T) (fun o => bd sub fun a => putE T (cur T s0).lo { kind := 8, op := o, a := a })) (lk_bd lk_next fun _ _ => lk_bd h fun _ _ => lk_putE _ (Nat.zero_le _))
      (lk_if (x := bd (takeP T [[40]]) (fun _ => bd (expressionM T sub) fun a => bd (takeP T [[41]]) fun _ => okP a)) (lk_bd (lk_takeP _) fun _ _ => lk_bd (lk_expression h) fun _ _ => lk_bd (lk_takeP _) fun _ _ => lk_ok True.intro)
        (lk_if (x := referenceM T sub) (lk_reference hN h) (lk_if (x := bd (numberM T) (fun n => putE T (cur T s0).lo { kind := 1, num := n })) (lk_bd lk_number fun _ _ => lk_putE _ (Nat.zero_le _)) lk_word)))
theorem lk_operand (hN : T.length + 1 ≤ N) : ∀ k, Lk N Any (operandM T k)
  | 0 => lk_no (c := fun _ => 4) (i := fun s => s.at_)
  | k + 1 => lk_operandS hN (lk_operand hN k)
theorem lk_blockL {one : Ps Nat} (h1 : Lk N Any one) : ∀ k (out : List Nat), Lk N (fun l => l.length ≤ out.length + k) (blockL T one k out)
  | 0, _ => lk_no (c := fun _ => 0) (i := fun _ => 0)
  | k + 1, out => by
    refine lk_if (x := Rs.ok out) (lk_ok (by omega)) (lk_bd h1 fun x _ => (lk_blockL h1 k (out ++ [x])).mono fun l hl => ?_)
    rw [List.length_append] at hl
    simp at hl
    omega
theorem lk_blkOf {one : Ps Nat} (h1 : Lk N Any one) (hN : T.length + 1 ≤ N) (k : Nat) : Lk N (fun l => l.length ≤ N) (blkOf T k one) := by
  unfold blkOf
  by_cases h : k = 0
  · rw [if_pos h]; exact lk_no (c := fun _ => 4) (i := fun s => s.at_)
  · rw [if_neg h]; exact lk_bd (lk_takeP _) fun _ _ => lk_bd (lk_blockL h1 _ []) fun l hl => lk_bd (lk_takeP _) fun _ _ => lk_ok (by simp at hl; omega)
def SmL (N : Nat) (x : Sm) : Prop := x.thn.length ≤ N ∧ x.els.length ≤ N
theorem lk_otherwise {blk : Ps (List Nat)} {stm : Ps Nat} (hN : 1 ≤ N) (hb : Lk N (fun l => l.length ≤ N) blk) (hs : Lk N Any stm) : Lk N (fun l => l.length ≤ N) (otherwiseM T blk stm) :=
  lk_if (x := bd stm (fun i => okP [i])) (lk_bd hs fun _ _ => lk_ok hN) hb
theorem lk_choice {ex : Ps Nat} {blk : Ps (List Nat)} {stm : Ps Nat} (hN : 1 ≤ N) (he : Lk N Any ex) (hb : Lk N (fun l => l.length ≤ N) blk) (hs : Lk N Any stm) : Lk N (SmL N) (choiceM T ex blk stm) :=
  lk_bd (lk_takeP _) fun _ _ => lk_bd he fun a _ => lk_bd hb fun l hl =>
    lk_if (α := Sm) (Q := SmL N) (x := bd (takeP T [kElse]) (fun _ => bd (otherwiseM T blk stm) fun m => okP { kind := 5, a := a, thn := l, els := m })) (y := Rs.ok { kind := 5, a := a, thn := l }) (lk_bd (lk_takeP _) fun _ _ => lk_bd (lk_otherwise hN hb hs) fun _ hm => lk_ok ⟨hl, hm⟩) (lk_ok ⟨hl, Nat.zero_le _⟩)
theorem lk_loop {ex : Ps Nat} {blk : Ps (List Nat)} (he : Lk N Any ex) (hb : Lk N (fun l => l.length ≤ N) blk) : Lk N (SmL N) (loopM T ex blk) :=
  lk_bd (lk_takeP _) fun _ _ => lk_bd he fun _ _ => lk_bd hb fun _ hl => lk_ok ⟨hl, Nat.zero_le _⟩
theorem lk_named (hN : T.length + 1 ≤ N) {ex sub : Ps Nat} (he : Lk N Any ex) (hs : Lk N Any sub) : Lk N (SmL N) (namedM T ex sub) :=
  lk_at (α := Sm) (Q := SmL N) (x := fun s => bd (takeK T 1) (fun name s1 =>
  if isP T [[40]] s1 then bd (callM T sub (cur T s).lo name) (fun a => okP { kind := 11, a := a }) s1
  else if isP T [[91]] s1 then bd (indexM T ex) (fun a => bd (takeP T [[61]]) fun _ => bd ex fun b => okP { kind := 4, name := name, a := a, b := b }) s1
  else bd (takeP T [[61]]) (fun _ => bd ex fun a => okP { kind := 3, name := name, a := a }) s1)) fun s => lk_bd (lk_takeK _) fun name _ =>
    lk_if (α := Sm) (Q := SmL N) (x := bd (callM T sub (cur T s).lo name) (fun a => okP { kind := 11, a := a })) (lk_bd (lk_call hN hs _ _) fun _ _ => lk_ok ⟨Nat.zero_le _, Nat.zero_le _⟩)
      (lk_if (α := Sm) (Q := SmL N) (x := bd (indexM T ex) (fun a => bd (takeP T [[61]]) fun _ => bd ex fun b => okP { kind := 4, name := name, a := a, b := b })) (lk_bd (lk_index he) fun _ _ => lk_bd (lk_takeP _) fun _ _ => lk_bd he fun _ _ => lk_ok ⟨Nat.zero_le _, Nat.zero_le _⟩)
        (lk_bd (lk_takeP _) fun _ _ => lk_bd he fun _ _ => lk_ok ⟨Nat.zero_le _, Nat.zero_le _⟩))
theorem lk_variable {ex : Ps Nat} (he : Lk N Any ex) : Lk N (SmL N) (variableM T ex) :=
  lk_bd (lk_takeP _) fun _ _ => lk_bd (lk_takeK _) fun _ _ => lk_bd (lk_takeP _) fun x _ => by
    by_cases h : x = [61]
    · rw [if_pos h]; exact lk_bd he fun _ _ => lk_ok ⟨Nat.zero_le _, Nat.zero_le _⟩
    · rw [if_neg h]; exact lk_bd lk_number fun _ _ => lk_bd (lk_takeP _) fun _ _ => lk_ok ⟨Nat.zero_le _, Nat.zero_le _⟩
theorem lk_answer {ex : Ps Nat} (he : Lk N Any ex) : Lk N (SmL N) (answerM T ex) :=
  lk_bd (lk_takeP _) fun _ _ => lk_if (α := Sm) (Q := SmL N) (x := Rs.ok { kind := 9, a := -1 }) (lk_ok ⟨Nat.zero_le _, Nat.zero_le _⟩) (lk_bd he fun _ _ => lk_ok ⟨Nat.zero_le _, Nat.zero_le _⟩)
theorem lk_simple (hN : T.length + 1 ≤ N) {ex sub : Ps Nat} (he : Lk N Any ex) (hs : Lk N Any sub) : Lk N (SmL N) (simpleM T ex sub) :=
  lk_if (α := Sm) (Q := SmL N) (x := namedM T ex sub) (lk_named hN he hs) (lk_if (α := Sm) (Q := SmL N) (x := variableM T ex) (lk_variable he) (lk_if (α := Sm) (Q := SmL N) (x := answerM T ex) (lk_answer he)
    (lk_if (α := Sm) (Q := SmL N) (x := bd (takeP T [kPrint]) (fun _ => bd ex fun a => okP { kind := 10, a := a })) (lk_bd (lk_takeP _) fun _ _ => lk_bd he fun _ _ => lk_ok ⟨Nat.zero_le _, Nat.zero_le _⟩) (lk_bd (lk_takeP _) fun _ _ => lk_ok ⟨Nat.zero_le _, Nat.zero_le _⟩))))
theorem lk_fields (hN : T.length + 1 ≤ N) {ex sub : Ps Nat} {blk : Ps (List Nat)} {stm : Ps Nat} (he : Lk N Any ex) (hu : Lk N Any sub) (hb : Lk N (fun l => l.length ≤ N) blk) (hs : Lk N Any stm) : Lk N (SmL N) (fieldsM T ex sub blk stm) :=
  lk_if (x := choiceM T ex blk stm) (lk_choice (by omega) he hb hs) (lk_if (x := loopM T ex blk) (lk_loop he hb) (lk_bd (lk_simple hN he hu) fun _ hx => lk_bd (lk_takeP _) fun _ _ => lk_ok hx))
theorem lk_stmtS (hN : T.length + 1 ≤ N) {ex sub : Ps Nat} {blk : Ps (List Nat)} {stm : Ps Nat} (he : Lk N Any ex) (hu : Lk N Any sub) (hb : Lk N (fun l => l.length ≤ N) blk) (hs : Lk N Any stm) : Lk N Any (stmtS T ex sub blk stm) :=
  lk_at (x := fun s => bd (fieldsM T ex sub blk stm) (putS T (cur T s).lo)) fun _ => lk_bd (lk_fields hN he hu hb hs) fun _ hx => lk_putS _ hx
theorem lk_stmt (hN : T.length + 1 ≤ N) : ∀ k, Lk N Any (stmtM T k)
  | 0 => lk_no (c := fun _ => 4) (i := fun s => s.at_)
  | k + 1 => lk_stmtS hN (lk_expression (lk_operand hN (k + 1))) (lk_operand hN k) (lk_blkOf (lk_stmt hN k) hN k) (lk_stmt hN k)
theorem lk_function (hN : T.length + 1 ≤ N) : Lk N Any (functionM T) :=
  lk_at (x := fun s0 s =>
  if isP T [kFunc] s && s.fn.length == 32 then .no 5 s.at_
  else bd (takeP T [kFunc]) (fun _ => bd (takeK T 1) fun name => bd (listM T (takeK T 1)) fun ps => bd (fun s1 => if isP T [kInt] s1 then bd (takeP T [kInt]) (fun _ => okP 1) s1 else .ok 4 s1) fun ty => bd (blockM T 64) fun body => putF T (cur T s0).lo { name := name, params := ps, ty := ty, body := body }) s) fun _ =>
    lk_if (b := fun s => isP T [kFunc] s && s.fn.length == 32) (lk_no (c := fun _ => 5) (i := fun s => s.at_))
      (lk_bd (lk_takeP _) fun _ _ => lk_bd (lk_takeK _) fun _ _ => lk_bd (lk_list (lk_takeK _) hN) fun _ hp => lk_bd (Q := Any) (lk_if (x := bd (takeP T [kInt]) (fun _ => okP 1)) (y := Rs.ok 4) (lk_bd (lk_takeP _) fun _ _ => lk_ok True.intro) (lk_ok True.intro)) fun _ _ => lk_bd (lk_blkOf (lk_stmt hN 64) hN 64) fun _ hb => lk_putF _ ⟨hp, hb⟩)
theorem lk_programL (hN : T.length + 1 ≤ N) : ∀ k, Lk N Any (programL T k)
  | 0 => lk_no (c := fun _ => 0) (i := fun _ => 0)
  | k + 1 => lk_if (x := Rs.ok ()) (lk_ok True.intro) (lk_bd (lk_function hN) fun _ _ => lk_programL hN k)
end
theorem parse_len {t : List UInt8} {s : Sg} (h : parseT t = .good s) : LenOk (t.length + 2) s := by
  unfold parseT at h
  cases hp : (toks t 0).2 with
  | some p => rw [hp] at h; cases h
  | none =>
    rw [hp] at h
    dsimp only at h
    have hl : (tksL t).length + 1 ≤ t.length + 2 := by
      have := toks_len' t
      unfold tksL
      simp; omega
    cases hr : programM (tksL t) start with
    | no c i => rw [hr] at h; cases h
    | ok u s' =>
      rw [hr] at h
      injection h with h1
      subst h1
      unfold programM at hr
      exact (lk_bd (lk_function hl) (fun _ _ => lk_programL hl _) start u s' ⟨fun x h => by simp [start] at h, fun x h => by simp [start] at h, fun x h => by simp [start] at h⟩ hr).1
end Go.Proofs.YtccmodefjgjpeaaGreatDoor
