/-
  What was put stays: each part of the grammar only puts statements behind those that there are.
  How long a program's names may be together: no longer than its tokens.
  How long an expression's text may be: its names, and a little for each part.
  A program of one statement that begins with 'print': its expressions are that statement's.
  An expression's text behind 'return' is parsed as that expression.
  print.Expr: the walk.
  What print.Expr asks of its world, of an expression that was parsed; and of its text, parsed again.
-/
import Derived.Test.YtdeflloidhbpmaaGreatDoorK27
import Derived.Test.YtdeflloidhbpmaaGreatDoorK47
import Derived.Test.YtdeflloidhbpmaaGreatDoorK37
import Derived.Test.YtdeflloidhbpmaaGreatDoorK48
import Derived.Test.YtdeflloidhbpmaaGreatDoorK49
namespace Go.Proofs.YtdeflloidhbpmaaGreatDoor

def Pz {α : Type} (x : Ps α) : Prop := ∀ s a s1, x s = .ok a s1 → s.st <+: s1.st
section
variable {T : List Tk}
theorem pf_bd {α β : Type} {x : Ps α} {g : α → Ps β} (hx : Pz x) (hg : ∀ a, Pz (g a)) : Pz (bd x g) := by
  intro s b s2 h
  obtain ⟨a, s1, h1, h2⟩ := bd_inv h
  exact (hx s a s1 h1).trans (hg a s1 b s2 h2)
theorem pf_ok {α : Type} {a : α} : Pz (okP a) := by
  intro s b s1 h
  injection h with e1 e2
  subst e2
  exact List.prefix_refl _
theorem pf_no {α : Type} {c i : Sg → Nat} : Pz (fun s => .no (c s) (i s) : Ps α) := fun s a s1 h => by cases h
theorem pf_if {α : Type} {b : Sg → Bool} {x y : Ps α} (hx : Pz x) (hy : Pz y) : Pz (fun s => if b s then x s else y s) := by
  intro s a s1 h
  by_cases hb : b s = true
  · exact hx s a s1 (by simpa [hb] using h)
  · exact hy s a s1 (by simpa [hb] using h)
theorem pf_at {α : Type} {x : Sg → Ps α} (h : ∀ s0, Pz (x s0)) : Pz (fun s => x s s) := fun s a s1 h1 => h s s a s1 h1
theorem pf_next : Pz (nextP T) := by
  intro s a s1 h
  unfold nextP at h
  by_cases hm : 1000 < s.st.length
  · rw [if_pos hm] at h; cases h
  · rw [if_neg hm] at h
    injection h with h1 h2
    subst h2
    exact List.prefix_refl _
theorem pf_takeP (l : List (List UInt8)) : Pz (takeP T l) := pf_if pf_next (pf_no (c := fun _ => 3) (i := fun s => s.at_))
theorem pf_takeK (k : Nat) : Pz (takeK T k) := pf_if pf_next (pf_no (c := fun _ => 3) (i := fun s => s.at_))
theorem pf_putE (lo : Nat) (x : Ex) : Pz (putE T lo x) := by
  intro s a s1 h
  unfold putE at h
  injection h with h1 h2
  subst h2
  exact List.prefix_refl _
theorem pf_putS (lo : Nat) (x : Sm) : Pz (putS T lo x) := by
  intro s a s1 h
  unfold putS at h
  injection h with h1 h2
  subst h2
  exact List.prefix_append _ _
theorem pf_putF (lo : Nat) (x : Fu) : Pz (putF T lo x) := by
  intro s a s1 h
  unfold putF at h
  injection h with h1 h2
  subst h2
  exact List.prefix_refl _
theorem pf_listL {α : Type} {one : Ps α} (h1 : Pz one) : ∀ k (out : List α), Pz (listL T one k out)
  | 0, _ => pf_no (c := fun _ => 0) (i := fun _ => 0)
  | k + 1, out => by
    refine pf_if (x := Rs.ok out) pf_ok ?_
    exact pf_bd (by by_cases h : out.length = 0 <;> simp only [h, if_true, if_false] <;> first | exact pf_ok | exact (pf_takeP _)) fun _ => pf_bd h1 fun x => pf_listL h1 k (out ++ [x])
theorem pf_list {α : Type} {one : Ps α} (h1 : Pz one) : Pz (listM T one) :=
  pf_bd (pf_takeP _) fun _ => pf_bd (pf_listL h1 _ []) fun _ => pf_bd (pf_takeP _) fun _ => pf_ok
theorem pf_pair {part : Ps Nat} (h : Pz part) (lo a : Nat) : Pz (pairM T part lo a) := (pf_bd pf_next fun _ => pf_bd h fun _ => pf_putE _ _)
theorem pf_rowL {part : Ps Nat} (h : Pz part) (signs : List (List UInt8)) (lo : Nat) : ∀ k a, Pz (rowL T part signs lo k a)
  | 0, _ => pf_no (c := fun _ => 0) (i := fun _ => 0)
  | k + 1, a => pf_if (x := bd (pairM T part lo a) (rowL T part signs lo k)) (y := Rs.ok a) (pf_bd (pf_pair h lo a) fun b => pf_rowL h signs lo k b) pf_ok
theorem pf_row {part : Ps Nat} (h : Pz part) (signs : List (List UInt8)) : Pz (rowM T part signs) := pf_at (x := fun s => bd part (rowL T part signs (cur T s).lo (T.length + 1))) fun _ => pf_bd h fun a => pf_rowL h signs _ _ a
theorem pf_comparison {op : Ps Nat} (h : Pz op) : Pz (comparisonM T op) :=
  pf_at (x := fun s => bd (sumM T op) (fun a s1 => if isP T sgCmp s1 then pairM T (sumM T op) (cur T s).lo a s1 else .ok a s1)) fun s =>
    pf_bd (pf_row (pf_row h _) _) fun a => pf_if (x := pairM T (sumM T op) (cur T s).lo a) (y := Rs.ok a) (pf_pair (pf_row (pf_row h _) _) _ _) pf_ok
theorem pf_expression {op : Ps Nat} (h : Pz op) : Pz (expressionM T op) := pf_row (pf_row (pf_comparison h) _) _
theorem pf_number : Pz (numberM T) := pf_bd (pf_takeK _) fun _ => pf_ok
theorem pf_index {e : Ps Nat} (h : Pz e) : Pz (indexM T e) := (pf_bd (pf_takeP _) fun _ => pf_bd h fun _ => pf_bd (pf_takeP _) fun _ => pf_ok)
theorem pf_call {sub : Ps Nat} (h : Pz sub) (lo : Nat) (name : List UInt8) : Pz (callM T sub lo name) := (pf_bd (pf_list (pf_expression h)) fun _ => pf_putE _ _)
theorem pf_reference {sub : Ps Nat} (h : Pz sub) : Pz (referenceM T sub) :=
  pf_at (x := fun s => bd (takeK T 1) (fun name s1 =>
  if isP T [[40]] s1 then callM T sub (cur T s).lo name s1
  else if isP T [[91]] s1 then bd (indexM T (expressionM T sub)) (fun a => putE T (cur T s).lo { kind := 5, name := name, a := a }) s1
  else putE T (cur T s).lo { kind := 4, name := name } s1)) fun s => (pf_bd (pf_takeK _) fun name =>
    pf_if (x := callM T sub (cur T s).lo name) ((pf_call h _ _)) (pf_if (x := bd (indexM T (expressionM T sub)) (fun a => putE T (cur T s).lo { kind := 5, name := name, a := a })) ((pf_bd (pf_index (pf_expression h)) fun _ => pf_putE _ _)) (pf_putE _ _)))
theorem pf_word : Pz (wordM T) := pf_at (x := fun s => bd (takeP T [kTrue, kFalse, kRead]) (fun x => putE T (cur T s).lo { kind := if x = kTrue then 2 else if x = kFalse then 3 else 7 })) fun _ => (pf_bd (pf_takeP _) fun _ => pf_putE _ _)
theorem pf_operandS {sub : Ps Nat} (h : Pz sub) : Pz (operandS T sub) :=
  pf_at (x := fun s0 s =>
  if isP T [[45], [33]] s then bd (nextP T) (fun o => bd sub fun a => putE T (cur T s0).lo { kind := 8, op := o, a := a }) s
  else if isP T [[40]] s then bd (takeP T [[40]]) (fun _ => bd (expressionM T sub) fun a => bd (takeP T [[41]]) fun _ => okP a) s
  else if isK T 1 s then referenceM T sub s
  else if isK T 2 s then bd (numberM T) (fun n => putE T (cur T s0).lo { kind := 1, num := n }) s
  else wordM T s) fun s0 =>
    pf_if (x := bd (nextP T) (fun o => bd sub fun a => putE T (cur T s0).lo { kind := 8, op := o, a := a })) ((pf_bd pf_next fun _ => pf_bd h fun _ => pf_putE _ _))
      (pf_if (x := bd (takeP T [[40]]) (fun _ => bd (expressionM T sub) fun a => bd (takeP T [[41]]) fun _ => okP a)) ((pf_bd (pf_takeP _) fun _ => pf_bd (pf_expression h) fun _ => pf_bd (pf_takeP _) fun _ => pf_ok))
        (pf_if (x := referenceM T sub) (pf_reference h) (pf_if (x := bd (numberM T) (fun n => putE T (cur T s0).lo { kind := 1, num := n })) ((pf_bd pf_number fun _ => pf_putE _ _)) pf_word)))
theorem pf_operand : ∀ k, Pz (operandM T k)
  | 0 => pf_no (c := fun _ => 4) (i := fun s => s.at_)
  | k + 1 => pf_operandS (pf_operand k)
theorem pf_blockL {one : Ps Nat} (h1 : Pz one) : ∀ k (out : List Nat), Pz (blockL T one k out)
  | 0, _ => pf_no (c := fun _ => 0) (i := fun _ => 0)
  | k + 1, out => pf_if (x := Rs.ok out) pf_ok (pf_bd h1 fun x => pf_blockL h1 k (out ++ [x]))
theorem pf_blkOf {one : Ps Nat} (h1 : Pz one) (k : Nat) : Pz (blkOf T k one) := by
  unfold blkOf
  by_cases h : k = 0
  · rw [if_pos h]; exact pf_no (c := fun _ => 4) (i := fun s => s.at_)
  · rw [if_neg h]; exact (pf_bd (pf_takeP _) fun _ => pf_bd (pf_blockL h1 _ []) fun _ => pf_bd (pf_takeP _) fun _ => pf_ok)
theorem pf_otherwise {blk : Ps (List Nat)} {stm : Ps Nat} (hb : Pz blk) (hs : Pz stm) : Pz (otherwiseM T blk stm) :=
  pf_if (x := bd stm (fun i => okP [i])) (pf_bd hs fun _ => pf_ok) (hb)
theorem pf_choice {ex : Ps Nat} {blk : Ps (List Nat)} {stm : Ps Nat} (he : Pz ex) (hb : Pz blk) (hs : Pz stm) : Pz (choiceM T ex blk stm) :=
  (pf_bd (pf_takeP _) fun _ => pf_bd he fun a => pf_bd hb fun l =>
    pf_if (α := Sm) (x := bd (takeP T [kElse]) (fun _ => bd (otherwiseM T blk stm) fun m => okP { kind := 5, a := a, thn := l, els := m })) (y := Rs.ok { kind := 5, a := a, thn := l }) ((pf_bd (pf_takeP _) fun _ => pf_bd (pf_otherwise hb hs) fun _ => pf_ok)) pf_ok)
theorem pf_loop {ex : Ps Nat} {blk : Ps (List Nat)} (he : Pz ex) (hb : Pz blk) : Pz (loopM T ex blk) :=
  (pf_bd (pf_takeP _) fun _ => pf_bd he fun _ => pf_bd hb fun _ => pf_ok)
theorem pf_named {ex sub : Ps Nat} (he : Pz ex) (hs : Pz sub) : Pz (namedM T ex sub) :=
  pf_at (α := Sm) (x := fun s => bd (takeK T 1) (fun name s1 =>
  if isP T [[40]] s1 then bd (callM T sub (cur T s).lo name) (fun a => okP { kind := 11, a := a }) s1
  else if isP T [[91]] s1 then bd (indexM T ex) (fun a => bd (takeP T [[61]]) fun _ => bd ex fun b => okP { kind := 4, name := name, a := a, b := b }) s1
  else bd (takeP T [[61]]) (fun _ => bd ex fun a => okP { kind := 3, name := name, a := a }) s1)) fun s => pf_bd (pf_takeK _) fun name =>
    pf_if (α := Sm) (x := bd (callM T sub (cur T s).lo name) (fun a => okP { kind := 11, a := a })) ((pf_bd (pf_call hs _ _) fun _ => pf_ok))
      (pf_if (α := Sm) (x := bd (indexM T ex) (fun a => bd (takeP T [[61]]) fun _ => bd ex fun b => okP { kind := 4, name := name, a := a, b := b })) ((pf_bd (pf_index he) fun _ => pf_bd (pf_takeP _) fun _ => pf_bd he fun _ => pf_ok))
        ((pf_bd (pf_takeP _) fun _ => pf_bd he fun _ => pf_ok)))
theorem pf_variable {ex : Ps Nat} (he : Pz ex) : Pz (variableM T ex) :=
  (pf_bd (pf_takeP _) fun _ => pf_bd ((pf_takeK _)) fun _ => pf_bd ((pf_takeP _)) fun x => by
    by_cases h : x = [61]
    · rw [if_pos h]; exact (pf_bd he fun _ => pf_ok)
    · rw [if_neg h]; exact (pf_bd pf_number fun _ => pf_bd (pf_takeP _) fun _ => pf_ok))
theorem pf_answer {ex : Ps Nat} (he : Pz ex) : Pz (answerM T ex) :=
  pf_bd (pf_takeP _) fun _ => pf_if (α := Sm) (x := Rs.ok { kind := 9, a := -1 }) pf_ok ((pf_bd he fun _ => pf_ok))
theorem pf_simple {ex sub : Ps Nat} (he : Pz ex) (hs : Pz sub) : Pz (simpleM T ex sub) :=
  pf_if (α := Sm) (x := namedM T ex sub) (pf_named he hs) (pf_if (α := Sm) (x := variableM T ex) (pf_variable he) (pf_if (α := Sm) (x := answerM T ex) (pf_answer he)
    (pf_if (α := Sm) (x := bd (takeP T [kPrint]) (fun _ => bd ex fun a => okP { kind := 10, a := a })) ((pf_bd (pf_takeP _) fun _ => pf_bd he fun _ => pf_ok)) ((pf_bd (pf_takeP _) fun _ => pf_ok)))))
theorem pf_fields {ex sub : Ps Nat} {blk : Ps (List Nat)} {stm : Ps Nat} (he : Pz ex) (hu : Pz sub) (hb : Pz blk) (hs : Pz stm) : Pz (fieldsM T ex sub blk stm) :=
  pf_if (x := choiceM T ex blk stm) (pf_choice he hb hs) (pf_if (x := loopM T ex blk) (pf_loop he hb) ((pf_bd (pf_simple he hu) fun _ => pf_bd (pf_takeP _) fun _ => pf_ok)))
theorem pf_stmtS {ex sub : Ps Nat} {blk : Ps (List Nat)} {stm : Ps Nat} (he : Pz ex) (hu : Pz sub) (hb : Pz blk) (hs : Pz stm) : Pz (stmtS T ex sub blk stm) :=
  pf_at (x := fun s => bd (fieldsM T ex sub blk stm) (putS T (cur T s).lo)) fun _ => (pf_bd (pf_fields he hu hb hs) fun _ => pf_putS _ _)
theorem pf_stmt : ∀ k, Pz (stmtM T k)
  | 0 => pf_no (c := fun _ => 4) (i := fun s => s.at_)
  | k + 1 => pf_stmtS (pf_expression (pf_operand (k + 1))) (pf_operand k) (pf_blkOf (pf_stmt k) k) (pf_stmt k)
theorem pf_function : Pz (functionM T) :=
  pf_at (x := fun s0 s =>
  if isP T [kFunc] s && s.fn.length == 32 then .no 5 s.at_
  else bd (takeP T [kFunc]) (fun _ => bd (takeK T 1) fun name => bd (listM T (takeK T 1)) fun ps => bd (fun s1 => if isP T [kInt] s1 then bd (takeP T [kInt]) (fun _ => okP 1) s1 else .ok 4 s1) fun ty => bd (blockM T 64) fun body => putF T (cur T s0).lo { name := name, params := ps, ty := ty, body := body }) s) fun _ =>
    pf_if (b := fun s => isP T [kFunc] s && s.fn.length == 32) (pf_no (c := fun _ => 5) (i := fun s => s.at_))
      (pf_bd ((pf_takeP _)) fun _ => pf_bd ((pf_takeK _)) fun _ => pf_bd ((pf_list ((pf_takeK _)))) fun _ => pf_bd (pf_if (x := bd (takeP T [kInt]) (fun _ => okP 1)) (y := Rs.ok 4) ((pf_bd (pf_takeP _) fun _ => pf_ok)) pf_ok) fun _ => pf_bd ((pf_blkOf (pf_stmt 64) 64)) fun _ => pf_putF _ _)
theorem pf_programL : ∀ k, Pz (programL T k)
  | 0 => pf_no (c := fun _ => 0) (i := fun _ => 0)
  | k + 1 => pf_if (x := Rs.ok ()) pf_ok (pf_bd pf_function fun _ => pf_programL k)
end
end Go.Proofs.YtdeflloidhbpmaaGreatDoor

namespace Go.Proofs.YtdeflloidhbpmaaGreatDoor

def nsum (E : List Ex) : Nat := (E.map (·.name.length)).sum
/-- The bytes of the first k tokens. -/
def off (T : List Tk) (k : Nat) : Nat := ((T.take k).map (·.txt.length)).sum
theorem off_succ (T : List Tk) (k : Nat) : off T (k + 1) = off T k + (T.getD k ⟨0, 0, 0, []⟩).txt.length := by
  unfold off
  rw [List.take_add_one, List.map_append, List.sum_append, List.getD_eq_getElem?_getD]
  cases T[k]? with
  | none => rfl
  | some x => simp
theorem nsum_snoc (E : List Ex) (x : Ex) : nsum (E ++ [x]) = nsum E + x.name.length := by
  unfold nsum
  rw [List.map_append, List.sum_append]; simp
/-- The names that one puts are no longer than the tokens that it takes, with c beforehand and P left. -/
def Wg (T : List Tk) (c : Nat) {α : Type} (P : α → Nat) (x : Ps α) : Prop := ∀ s a s1, x s = .ok a s1 → nsum s1.ex + off T s.at_ + P a ≤ off T s1.at_ + nsum s.ex + c
abbrev Wz (T : List Tk) {α : Type} (x : Ps α) : Prop := Wg T 0 (fun _ => 0) x
section
variable {T : List Tk}
theorem wg_bd {α β : Type} {c : Nat} {P : α → Nat} {Q : β → Nat} {x : Ps α} {g : α → Ps β} (hx : Wg T c P x) (hg : ∀ a, Wg T (P a) Q (g a)) : Wg T c Q (bd x g) := by
  intro s b s2 h
  obtain ⟨a, s1, h1, h2⟩ := bd_inv h
  have h3 := hx s a s1 h1
  have h4 := hg a s1 b s2 h2
  omega
theorem wg_bz {α β : Type} {x : Ps α} {g : α → Ps β} (hx : Wz T x) (hg : ∀ a, Wz T (g a)) : Wz T (bd x g) := wg_bd hx hg
theorem Wg.keep {α : Type} {x : Ps α} (h : Wz T x) (k : Nat) : Wg T k (fun _ => k) x := by
  intro s a s1 h1
  have := h s a s1 h1
  dsimp only at this ⊢
  omega
theorem Wz.up {α : Type} {x : Ps α} {c : Nat} (h : Wz T x) : Wg T c (fun _ => 0) x := by
  intro s a s1 h1
  have := h s a s1 h1
  dsimp only at this ⊢
  omega
theorem wg_ok {α : Type} {a : α} : Wz T (okP a) := by
  intro s b s1 h
  injection h with e1 e2
  subst e2
  dsimp only
  omega
theorem wg_no {α : Type} {c i : Sg → Nat} {d : Nat} {P : α → Nat} : Wg T d P (fun s => .no (c s) (i s) : Ps α) := fun s a s1 h => by cases h
theorem wg_if {α : Type} {c : Nat} {P : α → Nat} {b : Sg → Bool} {x y : Ps α} (hx : Wg T c P x) (hy : Wg T c P y) : Wg T c P (fun s => if b s then x s else y s) := by
  intro s a s1 h
  by_cases hb : b s = true
  · exact hx s a s1 (by simpa [hb] using h)
  · exact hy s a s1 (by simpa [hb] using h)
theorem wg_at {α : Type} {c : Nat} {P : α → Nat} {x : Sg → Ps α} (h : ∀ s0, Wg T c P (x s0)) : Wg T c P (fun s => x s s) := fun s a s1 h1 => h s s a s1 h1
theorem wg_nextn : Wg T 0 (fun a => a.length) (nextP T) := by
  intro s a s1 h
  unfold nextP at h
  by_cases hm : 1000 < s.st.length
  · rw [if_pos hm] at h; cases h
  · rw [if_neg hm] at h
    injection h with h1 h2
    subst h1 h2
    dsimp only
    rw [off_succ]
    unfold cur
    omega
theorem wg_next : Wz T (nextP T) := fun s a s1 h => by have := wg_nextn s a s1 h; dsimp only at this ⊢; omega
theorem wg_takeP (l : List (List UInt8)) : Wz T (takeP T l) := wg_if wg_next (wg_no (c := fun _ => 3) (i := fun s => s.at_))
theorem wg_takeKn (k : Nat) : Wg T 0 (fun a => a.length) (takeK T k) := wg_if wg_nextn (wg_no (c := fun _ => 3) (i := fun s => s.at_))
theorem wg_takeK (k : Nat) : Wz T (takeK T k) := fun s a s1 h => by have := wg_takeKn k s a s1 h; dsimp only at this ⊢; omega
theorem wg_put (lo : Nat) (x : Ex) : Wg T x.name.length (fun _ => 0) (putE T lo x) := by
  intro s a s1 h
  unfold putE at h
  injection h with h1 h2
  subst h2
  dsimp only
  rw [nsum_snoc]
  dsimp only
  omega
theorem wg_putE (lo : Nat) (x : Ex) (hn : x.name = [] := by rfl) : Wz T (putE T lo x) := by
  have h := wg_put (T := T) lo x
  rw [hn] at h
  exact h
theorem wg_putS (lo : Nat) (x : Sm) : Wz T (putS T lo x) := by
  intro s a s1 h
  unfold putS at h
  injection h with h1 h2
  subst h2
  dsimp only
  omega
theorem wg_putF (lo : Nat) (x : Fu) : Wz T (putF T lo x) := by
  intro s a s1 h
  unfold putF at h
  injection h with h1 h2
  subst h2
  dsimp only
  omega
theorem wg_listL {α : Type} {one : Ps α} (h1 : Wz T one) : ∀ k (out : List α), Wz T (listL T one k out)
  | 0, _ => wg_no (c := fun _ => 0) (i := fun _ => 0)
  | k + 1, out => by
    refine wg_if (x := Rs.ok out) wg_ok ?_
    exact wg_bz (by by_cases h : out.length = 0 <;> simp only [h, if_true, if_false] <;> first | exact wg_ok | exact (wg_takeP _)) fun _ => wg_bz h1 fun x => wg_listL h1 k (out ++ [x])
theorem wg_list {α : Type} {one : Ps α} (h1 : Wz T one) : Wz T (listM T one) :=
  wg_bz (wg_takeP _) fun _ => wg_bz (wg_listL h1 _ []) fun _ => wg_bz (wg_takeP _) fun _ => wg_ok
theorem wg_pair {part : Ps Nat} (h : Wz T part) (lo a : Nat) : Wz T (pairM T part lo a) := (wg_bz wg_next fun _ => wg_bz h fun _ => wg_putE _ _)
theorem wg_rowL {part : Ps Nat} (h : Wz T part) (signs : List (List UInt8)) (lo : Nat) : ∀ k a, Wz T (rowL T part signs lo k a)
  | 0, _ => wg_no (c := fun _ => 0) (i := fun _ => 0)
  | k + 1, a => wg_if (x := bd (pairM T part lo a) (rowL T part signs lo k)) (y := Rs.ok a) (wg_bz (wg_pair h lo a) fun b => wg_rowL h signs lo k b) wg_ok
theorem wg_row {part : Ps Nat} (h : Wz T part) (signs : List (List UInt8)) : Wz T (rowM T part signs) := wg_at (x := fun s => bd part (rowL T part signs (cur T s).lo (T.length + 1))) fun _ => wg_bz h fun a => wg_rowL h signs _ _ a
theorem wg_comparison {op : Ps Nat} (h : Wz T op) : Wz T (comparisonM T op) :=
  wg_at (x := fun s => bd (sumM T op) (fun a s1 => if isP T sgCmp s1 then pairM T (sumM T op) (cur T s).lo a s1 else .ok a s1)) fun s =>
    wg_bz (wg_row (wg_row h _) _) fun a => wg_if (x := pairM T (sumM T op) (cur T s).lo a) (y := Rs.ok a) (wg_pair (wg_row (wg_row h _) _) _ _) wg_ok
theorem wg_expression {op : Ps Nat} (h : Wz T op) : Wz T (expressionM T op) := wg_row (wg_row (wg_comparison h) _) _
theorem wg_number : Wz T (numberM T) := wg_bz (wg_takeK _) fun _ => wg_ok
theorem wg_index {e : Ps Nat} (h : Wz T e) : Wz T (indexM T e) := (wg_bz (wg_takeP _) fun _ => wg_bz h fun _ => wg_bz (wg_takeP _) fun _ => wg_ok)
theorem wg_call {sub : Ps Nat} (h : Wz T sub) (lo : Nat) (name : List UInt8) : Wg T name.length (fun _ => 0) (callM T sub lo name) := wg_bd ((wg_list (wg_expression h)).keep name.length) fun _ => wg_put _ _
theorem wg_reference {sub : Ps Nat} (h : Wz T sub) : Wz T (referenceM T sub) :=
  wg_at (x := fun s => bd (takeK T 1) (fun name s1 =>
  if isP T [[40]] s1 then callM T sub (cur T s).lo name s1
  else if isP T [[91]] s1 then bd (indexM T (expressionM T sub)) (fun a => putE T (cur T s).lo { kind := 5, name := name, a := a }) s1
  else putE T (cur T s).lo { kind := 4, name := name } s1)) fun s => wg_bd (wg_takeKn _) fun name =>
    wg_if (x := callM T sub (cur T s).lo name) (wg_call h _ _) (wg_if (x := bd (indexM T (expressionM T sub)) (fun a => putE T (cur T s).lo { kind := 5, name := name, a := a })) (wg_bd ((wg_index (wg_expression h)).keep name.length) fun _ => wg_put _ _) (wg_put _ _))
theorem wg_word : Wz T (wordM T) := wg_at (x := fun s => bd (takeP T [kTrue, kFalse, kRead]) (fun x => putE T (cur T s).lo { kind := if x = kTrue then 2 else if x = kFalse then 3 else 7 })) fun _ => (wg_bz (wg_takeP _) fun _ => wg_putE _ _)
theorem wg_operandS {sub : Ps Nat} (h : Wz T sub) : Wz T (operandS T sub) :=
  wg_at (x := fun s0 s =>
  if isP T [[45], [33]] s then bd (nextP T) (fun o => bd sub fun a => putE T (cur T s0).lo { kind := 8, op := o, a := a }) s
  else if isP T [[40]] s then bd (takeP T [[40]]) (fun _ => bd (expressionM T sub) fun a => bd (takeP T [[41]]) fun _ => okP a) s
  else if isK T 1 s then referenceM T sub s
  else if isK T 2 s then bd (numberM T) (fun n => putE T (cur T s0).lo { kind := 1, num := n }) s
  else wordM T s) fun s0 =>
    wg_if (x := bd (nextP T) (fun o => bd sub fun a => putE T (cur T s0).lo { kind := 8, op := o, a := a })) ((wg_bz wg_next fun _ => wg_bz h fun _ => wg_putE _ _))
      (wg_if (x := bd (takeP T [[40]]) (fun _ => bd (expressionM T sub) fun a => bd (takeP T [[41]]) fun _ => okP a)) ((wg_bz (wg_takeP _) fun _ => wg_bz (wg_expression h) fun _ => wg_bz (wg_takeP _) fun _ => wg_ok))
        (wg_if (x := referenceM T sub) (wg_reference h) (wg_if (x := bd (numberM T) (fun n => putE T (cur T s0).lo { kind := 1, num := n })) ((wg_bz wg_number fun _ => wg_putE _ _)) wg_word)))
theorem wg_operand : ∀ k, Wz T (operandM T k)
  | 0 => wg_no (c := fun _ => 4) (i := fun s => s.at_)
  | k + 1 => wg_operandS (wg_operand k)
theorem wg_blockL {one : Ps Nat} (h1 : Wz T one) : ∀ k (out : List Nat), Wz T (blockL T one k out)
  | 0, _ => wg_no (c := fun _ => 0) (i := fun _ => 0)
  | k + 1, out => wg_if (x := Rs.ok out) wg_ok (wg_bz h1 fun x => wg_blockL h1 k (out ++ [x]))
theorem wg_blkOf {one : Ps Nat} (h1 : Wz T one) (k : Nat) : Wz T (blkOf T k one) := by
  unfold blkOf
  by_cases h : k = 0
  · rw [if_pos h]; exact wg_no (c := fun _ => 4) (i := fun s => s.at_)
  · rw [if_neg h]; exact (wg_bz (wg_takeP _) fun _ => wg_bz (wg_blockL h1 _ []) fun _ => wg_bz (wg_takeP _) fun _ => wg_ok)
theorem wg_otherwise {blk : Ps (List Nat)} {stm : Ps Nat} (hb : Wz T blk) (hs : Wz T stm) : Wz T (otherwiseM T blk stm) :=
  wg_if (x := bd stm (fun i => okP [i])) (wg_bz hs fun _ => wg_ok) (hb)
theorem wg_choice {ex : Ps Nat} {blk : Ps (List Nat)} {stm : Ps Nat} (he : Wz T ex) (hb : Wz T blk) (hs : Wz T stm) : Wz T (choiceM T ex blk stm) :=
  (wg_bz (wg_takeP _) fun _ => wg_bz he fun a => wg_bz hb fun l =>
    wg_if (α := Sm) (x := bd (takeP T [kElse]) (fun _ => bd (otherwiseM T blk stm) fun m => okP { kind := 5, a := a, thn := l, els := m })) (y := Rs.ok { kind := 5, a := a, thn := l }) ((wg_bz (wg_takeP _) fun _ => wg_bz (wg_otherwise hb hs) fun _ => wg_ok)) wg_ok)
theorem wg_loop {ex : Ps Nat} {blk : Ps (List Nat)} (he : Wz T ex) (hb : Wz T blk) : Wz T (loopM T ex blk) :=
  (wg_bz (wg_takeP _) fun _ => wg_bz he fun _ => wg_bz hb fun _ => wg_ok)
theorem wg_named {ex sub : Ps Nat} (he : Wz T ex) (hs : Wz T sub) : Wz T (namedM T ex sub) :=
  wg_at (α := Sm) (x := fun s => bd (takeK T 1) (fun name s1 =>
  if isP T [[40]] s1 then bd (callM T sub (cur T s).lo name) (fun a => okP { kind := 11, a := a }) s1
  else if isP T [[91]] s1 then bd (indexM T ex) (fun a => bd (takeP T [[61]]) fun _ => bd ex fun b => okP { kind := 4, name := name, a := a, b := b }) s1
  else bd (takeP T [[61]]) (fun _ => bd ex fun a => okP { kind := 3, name := name, a := a }) s1)) fun s => wg_bd (wg_takeKn _) fun name =>
    wg_if (α := Sm) (x := bd (callM T sub (cur T s).lo name) (fun a => okP { kind := 11, a := a })) (wg_bd (wg_call hs _ _) fun _ => wg_ok)
      (wg_if (α := Sm) (x := bd (indexM T ex) (fun a => bd (takeP T [[61]]) fun _ => bd ex fun b => okP { kind := 4, name := name, a := a, b := b })) (Wz.up (wg_bz (wg_index he) fun _ => wg_bz (wg_takeP _) fun _ => wg_bz he fun _ => wg_ok))
        (Wz.up (wg_bz (wg_takeP _) fun _ => wg_bz he fun _ => wg_ok)))
theorem wg_variable {ex : Ps Nat} (he : Wz T ex) : Wz T (variableM T ex) :=
  (wg_bz (wg_takeP _) fun _ => wg_bz ((wg_takeK _)) fun _ => wg_bz ((wg_takeP _)) fun x => by
    by_cases h : x = [61]
    · rw [if_pos h]; exact (wg_bz he fun _ => wg_ok)
    · rw [if_neg h]; exact (wg_bz wg_number fun _ => wg_bz (wg_takeP _) fun _ => wg_ok))
theorem wg_answer {ex : Ps Nat} (he : Wz T ex) : Wz T (answerM T ex) :=
  wg_bz (wg_takeP _) fun _ => wg_if (α := Sm) (x := Rs.ok { kind := 9, a := -1 }) wg_ok ((wg_bz he fun _ => wg_ok))
theorem wg_simple {ex sub : Ps Nat} (he : Wz T ex) (hs : Wz T sub) : Wz T (simpleM T ex sub) :=
  wg_if (α := Sm) (x := namedM T ex sub) (wg_named he hs) (wg_if (α := Sm) (x := variableM T ex) (wg_variable he) (wg_if (α := Sm) (x := answerM T ex) (wg_answer he)
    (wg_if (α := Sm) (x := bd (takeP T [kPrint]) (fun _ => bd ex fun a => okP { kind := 10, a := a })) ((wg_bz (wg_takeP _) fun _ => wg_bz he fun _ => wg_ok)) ((wg_bz (wg_takeP _) fun _ => wg_ok)))))
theorem wg_fields {ex sub : Ps Nat} {blk : Ps (List Nat)} {stm : Ps Nat} (he : Wz T ex) (hu : Wz T sub) (hb : Wz T blk) (hs : Wz T stm) : Wz T (fieldsM T ex sub blk stm) :=
  wg_if (x := choiceM T ex blk stm) (wg_choice he hb hs) (wg_if (x := loopM T ex blk) (wg_loop he hb) ((wg_bz (wg_simple he hu) fun _ => wg_bz (wg_takeP _) fun _ => wg_ok)))
theorem wg_stmtS {ex sub : Ps Nat} {blk : Ps (List Nat)} {stm : Ps Nat} (he : Wz T ex) (hu : Wz T sub) (hb : Wz T blk) (hs : Wz T stm) : Wz T (stmtS T ex sub blk stm) :=
  wg_at (x := fun s => bd (fieldsM T ex sub blk stm) (putS T (cur T s).lo)) fun _ => (wg_bz (wg_fields he hu hb hs) fun _ => wg_putS _ _)
theorem wg_stmt : ∀ k, Wz T (stmtM T k)
  | 0 => wg_no (c := fun _ => 4) (i := fun s => s.at_)
  | k + 1 => wg_stmtS (wg_expression (wg_operand (k + 1))) (wg_operand k) (wg_blkOf (wg_stmt k) k) (wg_stmt k)
theorem wg_function : Wz T (functionM T) :=
  wg_at (x := fun s0 s =>
  if isP T [kFunc] s && s.fn.length == 32 then .no 5 s.at_
  else bd (takeP T [kFunc]) (fun _ => bd (takeK T 1) fun name => bd (listM T (takeK T 1)) fun ps => bd (fun s1 => if isP T [kInt] s1 then bd (takeP T [kInt]) (fun _ => okP 1) s1 else .ok 4 s1) fun ty => bd (blockM T 64) fun body => putF T (cur T s0).lo { name := name, params := ps, ty := ty, body := body }) s) fun _ =>
    wg_if (b := fun s => isP T [kFunc] s && s.fn.length == 32) (wg_no (c := fun _ => 5) (i := fun s => s.at_))
      (wg_bz ((wg_takeP _)) fun _ => wg_bz ((wg_takeK _)) fun _ => wg_bz ((wg_list ((wg_takeK _)))) fun _ => wg_bz (wg_if (x := bd (takeP T [kInt]) (fun _ => okP 1)) (y := Rs.ok 4) ((wg_bz (wg_takeP _) fun _ => wg_ok)) wg_ok) fun _ => wg_bz ((wg_blkOf (wg_stmt 64) 64)) fun _ => wg_putF _ _)
theorem wg_programL : ∀ k, Wz T (programL T k)
  | 0 => wg_no (c := fun _ => 0) (i := fun _ => 0)
  | k + 1 => wg_if (x := Rs.ok ()) wg_ok (wg_bz wg_function fun _ => wg_programL k)
end
theorem toksF_sum (t : List UInt8) : ∀ n k, k ≤ t.length → ((toksF n t k).1.map (fun x => (bytesOf t x).length)).sum + k ≤ t.length := by
  have hb : ∀ k, (bytesOf t (nextT t k)).length ≤ (nextT t k).hi - (nextT t k).lo := fun k => by unfold bytesOf; rw [List.length_take]; omega
  intro n
  induction n with
  | zero => intro k hk; simp [toksF]; omega
  | succ n ih =>
    intro k hk
    have hle := nextT_le t k hk
    have h1 := hb k
    simp only [toksF]
    by_cases hbad : nextBad t k = true
    · rw [if_pos hbad]; simp; omega
    · rw [if_neg hbad]
      by_cases h0 : (nextT t k).kind = 0
      · rw [if_pos h0]
        simp only [List.map_cons, List.map_nil, List.sum_cons, List.sum_nil]
        omega
      · rw [if_neg h0]
        have h2 := ih (nextT t k).hi hle.2.2.1
        simp only [List.map_cons, List.sum_cons]
        omega
theorem off_le (T : List Tk) (k : Nat) : off T k ≤ (T.map (·.txt.length)).sum := by
  have h : T.map (·.txt.length) = (T.take k).map (·.txt.length) ++ (T.drop k).map (·.txt.length) := by rw [← List.map_append, List.take_append_drop]
  unfold off
  rw [h, List.sum_append]
  omega
/-- A program's names are together no longer than its text. -/
theorem parse_wgt {t : List UInt8} {s : Sg} (h : parseT t = .good s) : nsum s.ex ≤ t.length := by
  unfold parseT at h
  cases hp : (toks t 0).2 with
  | some p => rw [hp] at h; cases h
  | none =>
    rw [hp] at h
    dsimp only at h
    cases hr : programM (tksL t) start with
    | no c i => rw [hr] at h; cases h
    | ok u s' =>
      rw [hr] at h
      injection h with h1
      subst h1
      unfold programM at hr
      have h2 := (wg_bz (wg_function (T := tksL t)) fun _ => wg_programL _) start u s' hr
      have h3 := off_le (tksL t) s'.at_
      have h4 : ((tksL t).map (·.txt.length)).sum ≤ t.length := by
        have := toksF_sum t (t.length - 0 + 1) 0 (Nat.zero_le _)
        unfold tksL toks
        rw [List.map_map]
        have e : (fun x : Tok => (bytesOf t x).length) = (fun x : Tk => x.txt.length) ∘ tkOf t := rfl
        rw [← e]
        omega
      have e0 : nsum start.ex = 0 := rfl
      dsimp only at h2
      omega
end Go.Proofs.YtdeflloidhbpmaaGreatDoor

namespace Go.Proofs.YtdeflloidhbpmaaGreatDoor

section
variable {nm : List UInt8 → Prop} {nu : Nat → Prop} {dec : Nat → List UInt8} {E : List Ex}
/-- The names of the first expressions, and 28 for each. -/
def qE (E : List Ex) (i : Nat) : Nat := nsum (E.take i) + 28 * i
theorem qE_succ {i : Nat} {x : Ex} (h : E[i]? = some x) : qE E (i + 1) = qE E i + x.name.length + 28 := by
  unfold qE
  rw [List.take_add_one, h, Option.toList_some, nsum_snoc]
  omega
theorem atP_len {m : Int} {a : Nat} : (pcsB dec E (atP E m a)).length ≤ (exT dec E a).length + 2 := by
  have h1 : (pcsB dec E [.pt (a : Int)]).length ≤ (exT dec E a).length + 2 := by simp [pcsB, pcB]
  have h2 : (pcsB dec E [.tx [40], .pt (a : Int), .tx [41]]).length ≤ (exT dec E a).length + 2 := by simp [pcsB, pcB]
  unfold atP
  cases E[a]? with
  | none => exact h1
  | some x =>
    dsimp only
    unfold atL
    split
    · exact h2
    · exact h1
theorem cjT_len : ∀ l : List Nat, (pcsB dec E (cjT l)).length ≤ (l.map fun a => (exT dec E a).length + 2).sum
  | [] => Nat.zero_le _
  | a :: r => by
    have h := cjT_len r
    have e : pcsB dec E (cjT (a :: r)) = [44, 32] ++ (exT dec E a ++ pcsB dec E (cjT r)) := rfl
    rw [e, List.length_append, List.length_append, List.map_cons, List.sum_cons]
    have : ([44, 32] : List UInt8).length = 2 := rfl
    omega
theorem cj_len : ∀ l : List Nat, (pcsB dec E (cj l)).length ≤ (l.map fun a => (exT dec E a).length + 2).sum
  | [] => Nat.zero_le _
  | a :: r => by
    have h := cjT_len (dec := dec) (E := E) r
    have e : pcsB dec E (cj (a :: r)) = exT dec E a ++ pcsB dec E (cjT r) := rfl
    rw [e, List.length_append, List.map_cons, List.sum_cons]
    omega
theorem call_sum : ∀ (l : List Nat) (f : Nat), (∀ j (h : j < l.length), (exT dec E l[j]).length + 4 + qE E (stt f l j) ≤ qE E (l[j] + 1)) → (l.map fun a => (exT dec E a).length + 2).sum + qE E f ≤ qE E (stt f l l.length)
  | [], f, _ => by simp [stt]
  | a :: r, f, h => by
    have h0 := h 0 (by simp)
    have e0 : stt f (a :: r) 0 = f := rfl
    rw [e0] at h0
    have h1 := call_sum r (a + 1) (fun j hj => by
      have := h (j + 1) (by simpa using hj)
      have e : stt f (a :: r) (j + 1) = stt (a + 1) r j := by
        cases j with
        | zero => rfl
        | succ j => rfl
      rw [e] at this
      exact this)
    have e1 : stt f (a :: r) (a :: r).length = stt (a + 1) r r.length := by
      cases r with
      | nil => rfl
      | cons b r => rfl
    rw [e1, List.map_cons, List.sum_cons]
    have e2 : (a :: r)[0] = a := rfl
    rw [e2] at h0
    omega
theorem exT_q (hnu : ∀ n, nu n → (dec n).length ≤ 18) : ∀ (i k f : Nat), Sh nm nu E k f i → (exT dec E i).length + 4 + qE E f ≤ qE E (i + 1) := by
  intro i
  induction i using Nat.strongRecOn with
  | ind i ih =>
    intro k f h
    obtain ⟨x, hx⟩ : ∃ x, E[i]? = some x := ⟨E[i]'h.lt.1, List.getElem?_eq_getElem h.lt.1⟩
    rw [exT_exp h hx, qE_succ hx]
    have hone : exP dec E x = [.tx (sgl dec x)] → pcsB dec E (exP dec E x) = sgl dec x := fun e => by rw [e]; simp [pcsB, pcB]
    cases h with
    | @num k i y hy hu hb =>
      rw [hx] at hy
      obtain rfl := Option.some.inj hy
      have hk : x.kind = 1 := congrArg Ex.kind hb
      have := hnu _ hu
      rw [hone (by simp [exP, hk])]
      have e : sgl dec x = dec x.num := by simp [sgl, hk]
      rw [e]
      omega
    | @word k i y hy hw hb =>
      rw [hx] at hy
      obtain rfl := Option.some.inj hy
      have key : (sgl dec x).length ≤ 5 ∧ exP dec E x = [.tx (sgl dec x)] := by
        rcases hw with hk | hk | hk <;> exact ⟨by simp [sgl, hk, kTrue, kFalse, kRead], by simp [exP, hk]⟩
      rw [hone key.2]
      omega
    | @name k i y hy hm hb =>
      rw [hx] at hy
      obtain rfl := Option.some.inj hy
      have hk : x.kind = 4 := congrArg Ex.kind hb
      rw [hone (by simp [exP, hk])]
      have e : sgl dec x = x.name := by simp [sgl, hk]
      rw [e]
      omega
    | @idx k f i y hy hm hb hi hs =>
      rw [hx] at hy
      obtain rfl := Option.some.inj hy
      have hk : x.kind = 5 := congrArg Ex.kind hb
      have h1 := ih x.a (by omega) k f hs
      rw [show exP dec E x = [.tx (x.name ++ [91]), .pt x.a, .tx [93]] by simp [exP, hk]]
      have e : pcsB dec E [.tx (x.name ++ [91]), .pt x.a, .tx [93]] = (x.name ++ [91]) ++ (exT dec E x.a ++ [93]) := by simp [pcsB, pcB]
      rw [e, List.length_append, List.length_append, List.length_append]
      subst hi
      simp only [List.length_singleton]
      omega
    | @call k f i y hy hm hb hi hs =>
      rw [hx] at hy
      obtain rfl := Option.some.inj hy
      have hk : x.kind = 6 := congrArg Ex.kind hb
      have h1 := call_sum (dec := dec) (E := E) x.list f (fun j hj => ih x.list[j] (by
        have h2 := (Sh.lt (hs j hj)).2
        have h3 : ∀ n, n ≤ x.list.length → j < n → x.list[j] < stt f x.list n := by
          intro n
          induction n with
          | zero => intro _ h; omega
          | succ n ihn =>
            intro hn hjn
            have e1 : stt f x.list (n + 1) = x.list.getD n 0 + 1 := rfl
            have e2 : x.list.getD n 0 = x.list[n] := by rw [List.getD_eq_getElem?_getD, List.getElem?_eq_getElem (by omega)]; rfl
            rw [e1, e2]
            rcases Nat.lt_or_ge j n with hlt | hge
            · have h4 := ihn (by omega) hlt
              have h5 := (Sh.lt (hs n (by omega))).2
              omega
            · obtain rfl : j = n := by omega
              omega
        have := h3 _ (Nat.le_refl _) hj
        omega) k (stt f x.list j) (hs j hj))
      rw [show exP dec E x = .tx (x.name ++ [40]) :: (cj x.list ++ [.tx [41]]) by simp [exP, hk]]
      have h2 := cj_len (dec := dec) (E := E) x.list
      have e : pcsB dec E (.tx (x.name ++ [40]) :: (cj x.list ++ [.tx [41]])) = (x.name ++ [40]) ++ (pcsB dec E (cj x.list) ++ [41]) := by
        show (x.name ++ [40]) ++ pcsB dec E (cj x.list ++ [.tx [41]]) = _
        rw [pcsB_app]
        simp [pcsB, pcB]
      rw [e, List.length_append, List.length_append, List.length_append]
      rw [hi] at h1
      simp only [List.length_singleton]
      omega
    | @un k k' f i y hy ho hb hi hd hs =>
      rw [hx] at hy
      obtain rfl := Option.some.inj hy
      have hk : x.kind = 8 := congrArg Ex.kind hb
      have h1 := ih x.a (by omega) k' f hs
      have h2 := atP_len (dec := dec) (E := E) (m := 5) (a := x.a)
      have hol : x.op.length = 1 := by rcases ho with ho | ho <;> rw [ho] <;> rfl
      rw [show exP dec E x = .tx x.op :: atP E 5 x.a by simp [exP, hk]]
      have e : pcsB dec E (.tx x.op :: atP E 5 x.a) = x.op ++ pcsB dec E (atP E 5 x.a) := rfl
      rw [e, List.length_append]
      subst hi
      omega
    | @pair k k1 k2 f i y hy ho hb hi hd1 h1 hd2 h2 =>
      rw [hx] at hy
      obtain rfl := Option.some.inj hy
      have hk : x.kind = 9 := congrArg Ex.kind hb
      have hol := op_short ho
      have hab := (Sh.lt h2).2
      have g1 := ih x.a (by omega) k1 f h1
      have g2 := ih x.b (by omega) k2 (x.a + 1) h2
      unfold exP
      rw [if_pos hk, pcsB_app, pcsB_app, List.length_append, List.length_append]
      have a1 := atP_len (dec := dec) (E := E) (m := if levI x.op = 2 then levI x.op + 1 else levI x.op) (a := x.a)
      have a2 := atP_len (dec := dec) (E := E) (m := levI x.op + 1) (a := x.b)
      have a3 : (pcsB dec E [.tx (32 :: (x.op ++ [32]))]).length = x.op.length + 2 := by simp [pcsB, pcB]
      subst hi
      omega
end
end Go.Proofs.YtdeflloidhbpmaaGreatDoor

namespace Go.Proofs.YtdeflloidhbpmaaGreatDoor

def preP : List UInt8 := [102, 117, 110, 99, 32, 102, 40, 41, 32, 123, 32, 112, 114, 105, 110, 116, 32]
def fstT (R : List Tk) : List Tk := ⟨3, 0, 4, kFunc⟩ :: ⟨1, 5, 6, [102]⟩ :: ⟨4, 6, 7, [40]⟩ :: ⟨4, 7, 8, [41]⟩ :: ⟨4, 9, 10, [123]⟩ :: ⟨3, 11, 16, kPrint⟩ :: R
theorem tks_pre (r : List UInt8) : ∃ R, tksL (preP ++ r) = fstT R := by
  have hlen : (preP ++ r).length = 17 + r.length := by rw [List.length_append]; rfl
  have n0 : nextT (preP ++ r) 0 = ⟨3, 0, 4⟩ := rfl
  have n1 : nextT (preP ++ r) 4 = ⟨1, 5, 6⟩ := rfl
  have n2 : nextT (preP ++ r) 6 = ⟨4, 6, 7⟩ := rfl
  have n3 : nextT (preP ++ r) 7 = ⟨4, 7, 8⟩ := rfl
  have n4 : nextT (preP ++ r) 8 = ⟨4, 9, 10⟩ := rfl
  have n5 : nextT (preP ++ r) 10 = ⟨3, 11, 16⟩ := rfl
  have t0 := toks_more (preP ++ r) 0 (by omega) (by unfold nextBad; rw [n0]; rfl) (by rw [n0]; decide)
  have t1 := toks_more (preP ++ r) 4 (by omega) (by unfold nextBad; rw [n1]; rfl) (by rw [n1]; decide)
  have t2 := toks_more (preP ++ r) 6 (by omega) (by unfold nextBad; rw [n2]; rfl) (by rw [n2]; decide)
  have t3 := toks_more (preP ++ r) 7 (by omega) (by unfold nextBad; rw [n3]; rfl) (by rw [n3]; decide)
  have t4 := toks_more (preP ++ r) 8 (by omega) (by unfold nextBad; rw [n4]; rfl) (by rw [n4]; decide)
  have t5 := toks_more (preP ++ r) 10 (by omega) (by unfold nextBad; rw [n5]; rfl) (by rw [n5]; decide)
  rw [n0] at t0
  rw [n1] at t1
  rw [n2] at t2
  rw [n3] at t3
  rw [n4] at t4
  rw [n5] at t5
  dsimp only at t0 t1 t2 t3 t4 t5
  refine ⟨(toks (preP ++ r) 16).1.map (tkOf (preP ++ r)), ?_⟩
  unfold tksL
  rw [t0, t1, t2, t3, t4, t5]
  rfl
theorem st_first {R : List Tk} {u : Unit} {s' : Sg} (h : programM (fstT R) start = .ok u s') : ∃ Z y, Sm.kind y = 10 ∧ (Z ++ [y]) <+: s'.st := by
  unfold programM at h
  obtain ⟨u1, s1, hf, hl⟩ := bd_inv h
  have hf' : bd (blockM (fstT R) 64) (fun body => putF (fstT R) 0 { name := [102], params := [], ty := 4, body := body }) ⟨4, [], [], []⟩ = .ok u1 s1 := hf
  obtain ⟨body, s2, hb, hp⟩ := bd_inv hf'
  have hb' : bd (blockL (fstT R) (stmtM (fstT R) 64) ((fstT R).length + 1) []) (fun l => bd (takeP (fstT R) [[125]]) fun _ => okP l) ⟨5, [], [], []⟩ = .ok body s2 := hb
  obtain ⟨l, s3, hbl, ht⟩ := bd_inv hb'
  have hbl' : bd (stmtM (fstT R) 64) (fun x => blockL (fstT R) (stmtM (fstT R) 64) (fstT R).length ([] ++ [x])) ⟨5, [], [], []⟩ = .ok l s3 := hbl
  obtain ⟨i, s4, hs, hr⟩ := bd_inv hbl'
  have hs' : bd (fieldsM (fstT R) (expressionM (fstT R) (operandM (fstT R) 64)) (operandM (fstT R) 63) (blkOf (fstT R) 63 (stmtM (fstT R) 63)) (stmtM (fstT R) 63)) (putS (fstT R) 11) ⟨5, [], [], []⟩ = .ok i s4 := hs
  obtain ⟨x, s6, hfi, hput⟩ := bd_inv hs'
  have hfi' : bd (simpleM (fstT R) (expressionM (fstT R) (operandM (fstT R) 64)) (operandM (fstT R) 63)) (fun x => bd (takeP (fstT R) [[59]]) fun _ => okP x) ⟨5, [], [], []⟩ = .ok x s6 := hfi
  obtain ⟨x', s7, hsi, hsm⟩ := bd_inv hfi'
  have hsi' : bd (takeP (fstT R) [kPrint]) (fun _ => bd (expressionM (fstT R) (operandM (fstT R) 64)) fun a => okP { kind := 10, a := a }) ⟨5, [], [], []⟩ = .ok x' s7 := hsi
  obtain ⟨_, s8, _, hx⟩ := bd_inv hsi'
  obtain ⟨a, s9, _, hok⟩ := bd_inv hx
  injection hok with hk _
  obtain ⟨_, s10, _, hok2⟩ := bd_inv hsm
  injection hok2 with hk2 _
  unfold putS at hput
  injection hput with _ h4
  have p1 := pf_blockL (pf_stmt 64) _ _ s4 l s3 hr
  have p2 := pf_bd (pf_takeP [[125]]) (fun _ => pf_ok) s3 body s2 ht
  have p3 := pf_putF _ _ s2 u1 s1 hp
  have p4 := pf_programL _ s1 u s' hl
  have p5 : s4.st <+: s'.st := ((p1.trans p2).trans p3).trans p4
  rw [← h4] at p5
  exact ⟨s6.st, _, by dsimp only; rw [← hk2, ← hk], p5⟩
section
variable {nm : List UInt8 → Prop} {nu : Nat → Prop} {E : List Ex} {S : List Sm}
theorem BL.none {l : List Nat} {m0 q m1 q1 : Nat} (h : BL (SSh nm nu E S 64) l m0 q m1 q1) (hq : q1 ≤ q) : m0 = m1 ∧ q = q1 := by
  have h1 := h.lt fun _ _ _ _ h => SSh.le h
  cases l with
  | nil => exact h
  | cons a r =>
    obtain ⟨m, h2, h3⟩ := h
    have h4 := h1.2 a (by simp)
    have h5 := SSh.le h2
    omega
theorem FL.none : ∀ {l : List Fu} {m0 q m1 q1 : Nat}, FL (FSh nm nu E S) l m0 q m1 q1 → q1 ≤ q → m0 = m1 ∧ q = q1
  | [], _, _, _, _, h, _ => h
  | f :: r, m0, q, m1, q1, ⟨m, p, h1, h2⟩, hq => by
    have hle := (h1.body.lt fun _ _ _ _ h => SSh.le h).1
    have hfl : ∀ {l : List Fu} {a b c d : Nat}, FL (FSh nm nu E S) l a b c d → b ≤ d := by
      intro l
      induction l with
      | nil => intro _ _ _ _ h; have := h.2; omega
      | cons g r ih =>
        intro _ _ _ _ h
        obtain ⟨_, _, g1, g2⟩ := h
        have := (g1.body.lt fun _ _ _ _ h => SSh.le h).1
        have := ih g2
        omega
    have h3 := hfl h2
    obtain ⟨e1, e2⟩ := h1.body.none (by omega)
    obtain ⟨e3, e4⟩ := FL.none h2 (by omega)
    omega
theorem FL.one : ∀ {l : List Fu} {m0 m1 : Nat}, FL (FSh nm nu E S) l m0 0 m1 1 → SSh nm nu E S 64 m0 0 0 m1
  | [], _, _, h => by have := h.2; omega
  | f :: r, m0, m1, ⟨m, p, h1, h2⟩ => by
    have hb := h1.body.lt fun _ _ _ _ h => SSh.le h
    have hfl : ∀ {l : List Fu} {a b c d : Nat}, FL (FSh nm nu E S) l a b c d → b ≤ d := by
      intro l
      induction l with
      | nil => intro _ _ _ _ h; have := h.2; omega
      | cons g r ih =>
        intro _ _ _ _ h
        obtain ⟨_, _, g1, g2⟩ := h
        have := (g1.body.lt fun _ _ _ _ h => SSh.le h).1
        have := ih g2
        omega
    have hp := hfl h2
    have hbody := h1.body
    by_cases h0 : p = 0
    · subst h0
      obtain ⟨e1, _⟩ := hbody.none (Nat.le_refl _)
      subst e1
      exact FL.one h2
    · obtain rfl : p = 1 := by omega
      obtain ⟨e1, _⟩ := FL.none h2 (Nat.le_refl _)
      subst e1
      cases hl : f.body with
      | nil => rw [hl] at hbody; have := hbody.2; omega
      | cons a r2 =>
        rw [hl] at hbody hb
        obtain ⟨m2, h3, h4⟩ := hbody
        have h5 := hb.2 a (by simp)
        obtain rfl : a = 0 := by omega
        obtain ⟨e2, _⟩ := h4.none (Nat.le_refl _)
        subst e2
        exact h3
end
theorem kind_ofS {x y : Sm} (h : bareS x = y) : x.kind = y.kind := by rw [← h]; rfl
theorem print_first {nm : List UInt8 → Prop} {nu : Nat → Prop} {r : List UInt8} {s : Sg} (hN : Nms nm nu (tksL (preP ++ r))) (h : parseT (preP ++ r) = .good s) (h1 : s.st.length = 1) :
    ∃ x a, s.st[0]? = some x ∧ x.a = ((a : Nat) : Int) ∧ a + 1 = s.ex.length ∧ Sh nm nu s.ex 64 0 a := by
  have hs := program_snd hN (parse_ok h).2
  rw [h1] at hs
  obtain ⟨x, hx, hb⟩ := FL.one hs
  obtain ⟨R, hR⟩ := tks_pre r
  have hp := (parse_ok h).2
  rw [hR] at hp
  obtain ⟨Z, y, hy, hpre⟩ := st_first hp
  have hlen := hpre.length_le
  rw [List.length_append, List.length_singleton] at hlen
  have hZ : Z = [] := List.eq_nil_of_length_eq_zero (by omega)
  subst hZ
  have hxy : x = y := by
    obtain ⟨q, hq⟩ := hpre
    rw [← hq] at hx
    exact (Option.some.inj hx).symm
  subst hxy
  have hk : ∀ z : Sm, bareS x = z → z.kind = 10 := fun z hz => by rw [← kind_ofS hz]; exact hy
  cases hb with
  | var a _ h2 => have := hk _ h2; cases this
  | arr _ _ h2 => have := hk _ h2; cases this
  | set a _ h2 => have := hk _ h2; cases this
  | put a _ h2 => have := hk _ h2; cases this
  | cond a m q h2 => have := hk _ h2; cases this
  | loop a h2 => have := hk _ h2; cases this
  | jump h2 _ _ _ => rcases h2 with h2 | h2 <;> omega
  | ret0 h2 => have := hk _ h2; cases this
  | ret a h2 => have := hk _ h2; cases this
  | print a h2 h3 h4 _ => exact ⟨x, a, hx, congrArg Sm.a h2, h4, h3⟩
  | call a h2 => have := hk _ h2; cases this
end Go.Proofs.YtdeflloidhbpmaaGreatDoor

namespace Go.Proofs.YtdeflloidhbpmaaGreatDoor

def preR : List UInt8 := [102, 117, 110, 99, 32, 102, 40, 41, 32, 123, 32, 114, 101, 116, 117, 114, 110, 32]
def postR : List UInt8 := [59, 32, 125]
def retS (a : Nat) : Sm := { kind := 9, a := (a : Int) }
def fF : Fu := { name := [102], params := [], ty := 4, body := [0] }
def retG (dec : Nat → List UInt8) (E : List Ex) (a : Nat) : List Wd := (3, kFunc) :: gp :: (1, [102]) :: (4, [40]) :: (4, [41]) :: gp :: (4, [123]) :: gp :: (3, kReturn) :: gp :: (prG dec E E.length a ++ [semi, gp, (4, [125])])
section
variable {nm : List UInt8 → Prop} {nu : Nat → Prop} {dec : Nat → List UInt8} {E : List Ex}
theorem retG_byt (a : Nat) : byt (retG dec E a) = preR ++ (byt (prG dec E E.length a) ++ postR) := by
  unfold retG
  rw [byt_cons, byt_cons, byt_cons, byt_cons, byt_cons, byt_cons, byt_cons, byt_cons, byt_cons, byt_cons, byt_app]
  rfl
theorem retG_wds (a : Nat) : wds (retG dec E a) = fnW dec E [retS a] fF := by
  have hz : ¬ (a : Int) < 0 := by omega
  have e1 : stW dec E [retS a] 1 0 = (3, kReturn) :: (prE dec E E.length a ++ [semi]) := by simp [stW, retS, hz]
  have e2 : wds [semi, gp, (4, [125])] = [semi, (4, [125])] := rfl
  unfold retG fnW gp
  rw [wds_word (by decide), wds_gap, wds_word (by decide), wds_word (by decide), wds_word (by decide), wds_gap, wds_word (by decide), wds_gap, wds_word (by decide), wds_gap, wds_app, wds_prG]
  have e3 : wds [semi, (9, [32]), (4, [125])] = [semi, (4, [125])] := rfl
  rw [e3]
  show _ = (3, kFunc) :: (1, [102]) :: (4, [40]) :: ([] ++ (4, [41]) :: ((if (4 : Nat) = 1 then [(3, kInt)] else []) ++ blW (stW dec E [retS a] 1) [0]))
  unfold blW
  rw [List.flatMap_cons, List.flatMap_nil, e1]
  simp
theorem gnF : GN [102] := ⟨⟨102, [], rfl, by decide⟩, by decide, by decide⟩
theorem retG_clf (hn : NmG nm nu dec) {k a : Nat} (h : Sh nm nu E k 0 a) : ClF (retG dec E a) [] := by
  have hl := lx_of hn h E.length h.lt.1
  unfold retG
  refine clf_word (wk_word (by decide)) (bq_gp _ _) (clf_gp (clf_word (.name rfl gnF) (bq_of [] (by decide) _ _) (clf_open (by decide) (fst_head (fst_cons (by decide) _) _) (clf_word (wk_one (by decide)) (bq_gp _ _) (clf_gp (clf_word (wk_one (by decide)) (bq_gp _ _) (clf_gp (clf_word (wk_word (by decide)) (bq_gp _ _) (clf_gp ?_)))))))))
  exact (hl.2 _ (bq_of [] (by decide) _ _)).app (clf_word wk_semi (bq_gp _ _) (clf_gp (clf_word (wk_one (by decide)) (fun e he => by cases he) trivial)))
end
/-- What is parsed of it. -/
theorem expr_back {s : Sg} {a : Nat} (ha : Sh GN nuD s.ex 64 0 a) (hl : a + 1 = s.ex.length) :
    ∃ s', parseT (preR ++ (byt (prG Lib.decDigits s.ex s.ex.length a) ++ postR)) = .good s' ∧ s'.ex.map bare = s.ex.map bare ∧ s'.st.map bareS = [retS a] ∧ s'.fn.length = 1 := by
  obtain ⟨m1, m2⟩ := mt_laid (retG_clf (nmG_of dec_ok) ha)
  rw [retG_byt] at m1
  rw [retG_wds] at m2
  have m2' : Mt (tksL (byt (retG Lib.decDigits s.ex a))) 0 ([fF].flatMap (fnW Lib.decDigits s.ex [retS a]) ++ [(0, [])]) := by simpa using m2
  rw [retG_byt] at m2'
  have hF : FL (FSh GN nuD s.ex [retS a]) [fF] 0 0 s.ex.length [retS a].length :=
    ⟨s.ex.length, 1, { name := gnF, params := fun p hp => (by cases hp), ty := .inr rfl, body := ⟨s.ex.length, ⟨retS a, rfl, .ret a rfl ha hl rfl⟩, rfl, rfl⟩ }, rfl, rfl⟩
  obtain ⟨s', e1, e2, e3, e4⟩ := program_again (nmOk dec_ok) (by simp) (by simp) (by simp) hF m2'
  refine ⟨s', ?_, e2, e3, by simpa using congrArg List.length e4⟩
  unfold parseT
  rw [m1]
  dsimp only
  rw [e1]
end Go.Proofs.YtdeflloidhbpmaaGreatDoor

namespace Go.Proofs.YtdeflloidhbpmaaGreatDoor
open Go.RowKit

section
variable {nm : List UInt8 → Prop} {nu : Nat → Prop} {dec : Nat → List UInt8} {g cl : Nat → Nat} {e s f : Value} {sg : Sg}
theorem one_piece (W : World) (a : Nat) : ArrAt (W.alloc (.cells #[.bool true, .string ⟨#[]⟩, .int .i64 (a : Int)] 59)) 3 (.slice (some ⟨W.heap.size, 0, none⟩) 1 1) [Pc.pt (a : Int)].length (pcsV [.pt (a : Int)]) := by
  refine ⟨_, _, rfl, rfl, fun _ => ⟨W.heap.size, rfl, by simp, fun j u hu => ?_⟩⟩
  rw [cellK (heap_one W #[.bool true, .string ⟨#[]⟩, .int .i64 (a : Int)] 59) j]
  rw [← Array.getElem?_toList]
  exact hu
set_option maxRecDepth 100000 in
set_option maxHeartbeats 4000000 in
theorem wexpr_calls {w : World} (h : PrIn nm nu dec g cl e s f sg w) (hnu : ∀ n, nu n → (dec n).length ≤ 18) (hng : NmG nm nu dec) {k fi a : Nat} (hs : Sh nm nu sg.ex k fi a) (hq : qE sg.ex (a + 1) ≤ 1000000000) :
    Calls Tryz.prog 9 #[.agg #[e, s, f], .int .i64 (a : Int)] w (PrP (exT dec sg.ex a) w) := by
  obtain ⟨A1, c1, A2, c2, A3, c3, he⟩ := h.tree.form
  obtain ⟨rfl, rfl, rfl⟩ : e = .slice A1 sg.ex.length c1 ∧ s = .slice A2 sg.st.length c2 ∧ f = .slice A3 sg.fn.length c3 := by
    injection he with he; simp at he; exact he
  clear he
  have HH := Lib.hid h
  clear h
  have HS := Lib.hid hs
  have hlt := hs.lt.1
  have HL : Hid ((exT dec sg.ex a).length ≤ 1000000000) := Lib.hid (by have := exT_q hnu a k fi hs; omega)
  have HN : Hid (exT dec sg.ex a ≠ []) := Lib.hid (by
    obtain ⟨⟨c, r, e, _⟩, _⟩ := lx_of hng hs (a + 1) (Nat.lt_succ_self _)
    show byt (prG dec sg.ex (a + 1) a) ≠ []
    rw [e]
    exact List.cons_ne_nil _ _)
  have HP : Hid (pcsB dec sg.ex [.pt (a : Int)] = exT dec sg.ex a) := Lib.hid (by simp [pcsB, pcB])
  have HWT : Hid (pws (wt dec sg.ex) [.pt (a : Int)] ≤ 100000) := Lib.hid (by
    have h1 := wt_le hs (dec := dec)
    have h2 := HH.out.few
    rw [pws_cons]
    show (1 + wt dec sg.ex a) + 0 ≤ _
    omega)
  have HOK : Hid (∀ q ∈ [Pc.pt (a : Int)], PcOk nm nu sg.ex sg.ex.length q) := Lib.hid fun q hq => by
    rw [List.mem_singleton] at hq
    exact .inr ⟨a, k, fi, hq, hs, hlt⟩
  clear hs hq hlt
  have hB2 := below_two w (.cells #[.slice A1 sg.ex.length c1, .slice A2 sg.st.length c2, .slice A3 sg.fn.length c3] 27) (.cells #[.slice A1 sg.ex.length c1, .slice A2 sg.st.length c2, .slice A3 sg.fn.length c3, .pointer none, .slice none 0 0] 56)
  have hbl := heap_two w (.cells #[.slice A1 sg.ex.length c1, .slice A2 sg.st.length c2, .slice A3 sg.fn.length c3] 27) #[.slice A1 sg.ex.length c1, .slice A2 sg.st.length c2, .slice A3 sg.fn.length c3, .pointer none, .slice none 0 0] 56
  have HB2 := Lib.hid hB2
  have HBL := Lib.hid hbl
  have hpp := Lib.hid (fun W => ppartV (a : Int) W)
  clear hB2 hbl
  go_enter Tryz.func9, Tryz.ntmps9
  go_wp2_with fail
  have HBS := Lib.hid (HH.out.base HB2.out (w.heap.size + 1) (Nat.le_succ _) HBL.out)
  generalize ((w.alloc (.cells #[.slice A1 sg.ex.length c1, .slice A2 sg.st.length c2, .slice A3 sg.fn.length c3] 27)).alloc (.cells #[.slice A1 sg.ex.length c1, .slice A2 sg.st.length c2, .slice A3 sg.fn.length c3, .pointer none, .slice none 0 0] 56)) = W0 at HB2 HBL HBS ⊢
  generalize hwb : w.heap.size + 1 = wb at HBL HBS ⊢
  have HST : Hid (At wb (.slice A1 sg.ex.length c1) (.slice A2 sg.st.length c2) (.slice A3 sg.fn.length c3) (.slice none 0 0) W0 [] W0) := Lib.hid (At.refl (p := none) ⟨HBL.out, .inl rfl, own_zero _ _ _ _⟩)
  have HWB := Lib.hid hwb
  clear hwb HBL
  have hst := Lib.hid (fun W v p (hW : WrAt wb (.slice A1 sg.ex.length c1) (.slice A2 sg.st.length c2) (.slice A3 sg.fn.length c3) v p (exT dec sg.ex a) W) => bstring_calls wb _ _ _ v p _ W hW HN.out)
  refine (hpp.out W0).mono ?_
  rintro e1 w1 ⟨rfl, hB1⟩
  have HA1 := Lib.hid ((HST.out.below hB1).below ((Below.refl w1.heap.size w1).alloc (Nat.le_refl _) (.cells #[.bool true, .string ⟨#[]⟩, .int .i64 (a : Int)] 59)))
  have HPT := Lib.hid (At.put HBS.out HA1.out (.slice (some ⟨w1.heap.size, 0, none⟩) 1 1) [.pt (a : Int)] (one_piece w1 a) HOK.out HWT.out (by rw [HP.out]; have := HL.out; simp; omega))
  rw [HP.out, List.nil_append] at HPT
  clear hB1 HST HA1 hpp
  go_wp2_with (go_at_call 18; refine HPT.out.mono ?_)
  intro e2 w2 h2
  obtain ⟨rfl, h2⟩ := h2
  have HBW : Hid (Below w.heap.size w w2) := Lib.hid (HB2.out.trans ((h2.wbBelow HBS.out).mono (by have := HWB.out; omega)))
  have HWL : Hid (w.heap.size ≤ wb) := Lib.hid (by have := HWB.out; omega)
  obtain ⟨v, p, hW, _, _⟩ := h2
  have HSX := Lib.hid (hst.out w2 v p hW)
  clear hW hst HPT
  go_wp2_with (go_at_call 20; refine HSX.out.mono ?_)
  rintro e5 w5 ⟨rfl, hB5⟩
  have HB5 := Lib.hid (HBW.out.trans (hB5.mono HWL.out))
  clear hB5
  go_wp2
  go_ret
  exact ⟨rfl, HB5.out⟩
end
end Go.Proofs.YtdeflloidhbpmaaGreatDoor

namespace Go.Proofs.YtdeflloidhbpmaaGreatDoor
open Go.RowKit

theorem prIn_of {w : World} {g c : Nat → Nat} (hL : Levs g c w) (htab : Lib.TabIs Tryz.prog w nameP .u64 Lib.pow10Tab) {t : List UInt8} (ht : t.length ≤ 20000) {s : Sg} (hp : parseT t = .good s) (hls : ∀ x ∈ s.ex, x.list.length ≤ 10000)
    (hex : s.ex.length ≤ 2000) (hst : s.st.length ≤ 100000) (hfn : s.fn.length ≤ 100000) (hlen : (byt (progG Lib.decDigits s)).length ≤ 1000000000) {L : Nat → Prop} {e st f : Value} (hv : TrIn L w (.agg #[e, st, f]) s) :
    PrIn (fun b => GN b ∧ b.length ≤ t.length) nuD Lib.decDigits g c e st f s w := by
  have hl := parse_len hp
  exact { lev := hL
          lo := ⟨cell_lt (hL.cell 0 (by omega)), fun i hi => (hL.rows i hi).2.1⟩
          tree := TrB.of hv
          ito := fun n hn w1 h1 => itoa_in (Joins.tab_stays Tryz.gPows htab h1 (Nat.le_refl _)) n hn
          num := parse_nums hp
          lens := hls
          nms := fun b hb => by have := hb.2; omega
          few := hex
          dl := fun n hn => by have := dec_len 17 n hn; omega
          st := hst
          fn := ⟨parseT_good hp, hfn⟩
          sh := parse_shapeL hp
          pars := fun y hy => by have := (hl.fn y hy).1; omega
          len := hlen }
theorem qE_all (E : List Ex) : qE E E.length = nsum E + 28 * E.length := by unfold qE; rw [List.take_length]
theorem qE_zero (E : List Ex) : qE E 0 = 0 := rfl
theorem nuD_len (n : Nat) (hn : nuD n) : (Lib.decDigits n).length ≤ 18 := dec_len 17 n hn
/-- How long the text of a program's last expression is. -/
theorem exT_short {nm : List UInt8 → Prop} {t : List UInt8} {s : Sg} (hp : parseT t = .good s) {k a : Nat} (hs : Sh nm nuD s.ex k 0 a) (ha : a + 1 = s.ex.length) : (exT Lib.decDigits s.ex a).length ≤ 29 * t.length ∧ qE s.ex (a + 1) ≤ 29 * t.length := by
  have h1 := exT_q nuD_len a k 0 hs
  have h2 := parse_wgt hp
  have h3 := parse_cnt hp
  rw [ha, qE_all] at h1 ⊢
  rw [qE_zero] at h1
  omega
/-- print.Expr of a program that was parsed. -/
theorem expr_calls {w : World} (h : TabsP w) {t : List UInt8} (ht : t.length ≤ 20000) {s : Sg} (hp : parseT t = .good s) (hls : ∀ x ∈ s.ex, x.list.length ≤ 10000)
    (hex : s.ex.length ≤ 2000) (hst : s.st.length ≤ 100000) (hfn : s.fn.length ≤ 100000) (hlen : (byt (progG Lib.decDigits s)).length ≤ 1000000000) {L : Nat → Prop} {v : Value} (hv : TrIn L w v s)
    {k a : Nat} (hs : Sh (fun b => GN b ∧ b.length ≤ t.length) nuD s.ex k 0 a) (ha : a + 1 = s.ex.length) :
    Calls Tryz.prog 9 #[v, .int .i64 (a : Int)] w (PrP (exT Lib.decDigits s.ex a) w) := by
  obtain ⟨A1, c1, A2, c2, A3, c3, rfl⟩ := hv.form
  obtain ⟨g, c, hL⟩ := h.lev
  exact wexpr_calls (prIn_of hL h.pow ht hp hls hex hst hfn hlen hv) nuD_len ⟨fun b hb => hb.1, fun n hn => (dec_ok n hn).1⟩ hs (by have := (exT_short hp hs ha).2; omega)
theorem parse_out1 {t : List UInt8} (ht : t.length ≤ 10000) {s : Sg} (h : parseT t = .good s) (hex : s.ex.length ≤ 2000) (hst : s.st.length ≤ 1) (hfn : s.fn.length ≤ 1) : (byt (progG Lib.decDigits s)).length ≤ 1000000000 := by
  have h3 := (progG_len (dec := Lib.decDigits) (L := 10000) (K := 10002) (fun b hb => by have := hb.2; omega) nuD_len s.fn 0 0 _ _ (fun f hf => by have := ((parse_len h).fn f hf).1; omega) (Nat.le_refl _) (parse_shapeL h)).2.2
  have e : progG Lib.decDigits s = s.fn.flatMap (fnG Lib.decDigits s.ex s.st) := rfl
  rw [e]
  refine Nat.le_trans h3 ?_
  have a1 : 6 * (10000 + 20) * (s.ex.length - 0) ≤ 6 * (10000 + 20) * 2000 := Nat.mul_le_mul_left _ (by omega)
  have a2 : (10000 + 1000) * (s.st.length - 0) ≤ (10000 + 1000) * 1 := Nat.mul_le_mul_left _ (by omega)
  have a3 : ((10000 + 2) * 10002 + 10000 + 200) * s.fn.length ≤ ((10000 + 2) * 10002 + 10000 + 200) * 1 := Nat.mul_le_mul_left _ (by omega)
  omega
theorem exT_bare {E E' : List Ex} {dec : Nat → List UInt8} (h : E'.map bare = E.map bare) (a : Nat) : exT dec E' a = exT dec E a := by
  unfold exT
  rw [← prG_bare E', ← prG_bare E, h]
/-- The shape of what is parsed of an expression's text behind 'return'. -/
theorem ret_shape {t : List UInt8} {s : Sg} {a : Nat} (h : parseT t = .good s) (h1 : s.st.map bareS = [retS a]) : Sh (fun b => GN b ∧ b.length ≤ t.length) nuD s.ex 64 0 a ∧ a + 1 = s.ex.length ∧ ∃ x, s.st[0]? = some x ∧ x.a = (a : Int) := by
  have hl : s.st.length = 1 := by simpa using congrArg List.length h1
  have hs := parse_shapeL h
  rw [hl] at hs
  obtain ⟨x, hx, hb⟩ := FL.one hs
  have hxe : bareS x = retS a := by
    have := congrArg (·[0]?) h1
    simp only [List.getElem?_map, hx, Option.map_some, List.getElem?_cons_zero] at this
    exact Option.some.inj this
  have hk : ∀ z : Sm, bareS x = z → z = retS a := fun z hz => hz.symm.trans hxe
  have hka : ∀ z : Sm, bareS x = z → z.kind = 9 ∧ z.a = (a : Int) := fun z hz => by rw [hk z hz]; exact ⟨rfl, rfl⟩
  cases hb with
  | var a _ h2 => have := (hka _ h2).1; cases this
  | arr _ _ h2 => have := (hka _ h2).1; cases this
  | set a _ h2 => have := (hka _ h2).1; cases this
  | put a _ h2 => have := (hka _ h2).1; cases this
  | cond a m q h2 => have := (hka _ h2).1; cases this
  | loop a h2 => have := (hka _ h2).1; cases this
  | jump h2 h3 => have h4 : x.kind = 9 := (hka _ h3).1; rcases h2 with h2 | h2 <;> omega
  | ret0 h2 => have h4 : (-1 : Int) = (a : Int) := (hka _ h2).2; omega
  | ret b h2 h3 h4 _ =>
    have h5 : (b : Int) = (a : Int) := (hka _ h2).2
    obtain rfl : b = a := by omega
    exact ⟨h3, h4, x, hx, congrArg Sm.a h2⟩
  | print a h2 => have := (hka _ h2).1; cases this
  | call a h2 => have := (hka _ h2).1; cases this
/-- All that the law asks of an expression's text. -/
theorem expr_again {r : List UInt8} (hr : r.length ≤ 303) {s : Sg} (h : parseT (preP ++ r) = .good s) (h1 : s.st.length = 1) :
    ∃ a s' x x', s.st[0]? = some x ∧ x.a = ((a : Nat) : Int) ∧ a + 1 = s.ex.length ∧ Sh (fun b => GN b ∧ b.length ≤ (preP ++ r).length) nuD s.ex 64 0 a ∧ (exT Lib.decDigits s.ex a).length ≤ 9900 ∧
      parseT (preR ++ (exT Lib.decDigits s.ex a ++ postR)) = .good s' ∧ s'.st[0]? = some x' ∧ x'.a = (a : Int) ∧ a + 1 = s'.ex.length ∧ s'.ex.length = s.ex.length ∧ s'.st.length = 1 ∧ s'.fn.length = 1 ∧
      Sh (fun b => GN b ∧ b.length ≤ (preR ++ (exT Lib.decDigits s.ex a ++ postR)).length) nuD s'.ex 64 0 a ∧ exT Lib.decDigits s'.ex a = exT Lib.decDigits s.ex a ∧ (∀ y ∈ s'.ex, y.list.length ≤ 10000) := by
  have hlen : (preP ++ r).length ≤ 320 := by rw [List.length_append]; show 17 + _ ≤ _; omega
  obtain ⟨x, a, hx, hxa, ha, hs⟩ := print_first (nms_len _) h h1
  obtain ⟨_, b, _, _, hb, hs2⟩ := print_first (nms_tks _) h h1
  obtain rfl : b = a := by omega
  have hsh := (exT_short h hs ha).1
  obtain ⟨s', e1, e2, e3, e4⟩ := expr_back hs2 hb
  rw [prG_exT hs2] at e1
  obtain ⟨g1, g2, x', g3, g4⟩ := ret_shape e1 e3
  have hxl : s'.ex.length = s.ex.length := by simpa using congrArg List.length e2
  refine ⟨b, s', x, x', hx, hxa, hb, hs, by omega, e1, g3, g4, g2, hxl, by simpa using congrArg List.length e3, e4, g1, exT_bare e2 b, ?_⟩
  intro y hy
  obtain ⟨i, hi, rfl⟩ := List.mem_iff_getElem.1 hy
  have h1 : (s'.ex.map bare)[i]? = (s.ex.map bare)[i]? := by rw [e2]
  rw [List.getElem?_map, List.getElem?_map, List.getElem?_eq_getElem hi, List.getElem?_eq_getElem (by omega : i < s.ex.length)] at h1
  have h2 := congrArg Ex.list (Option.some.inj h1)
  have h3 : s'.ex[i].list = (s.ex[i]'(by omega)).list := h2
  rw [h3]
  have := (parse_len h).ex _ (List.getElem_mem (by omega : i < s.ex.length))
  omega
end Go.Proofs.YtdeflloidhbpmaaGreatDoor
