/-
  How much a program has: no more expressions and statements than there are tokens.
-/
import Derived.Test.YtccmodefjgjpeaaGreatDoorPRes
namespace Go.Proofs.YtccmodefjgjpeaaGreatDoor

/-- One takes so many tokens more, but c, than it puts. -/
def Ct (d c : Nat) {α : Type} (x : Ps α) : Prop := ∀ s a s1, x s = .ok a s1 → s1.ex.length + s1.st.length + s.at_ + d ≤ s1.at_ + s.ex.length + s.st.length + c
section
variable {T : List Tk}
theorem ct_bd {α β : Type} {d c e f : Nat} {x : Ps α} {g : α → Ps β} (hx : Ct d c x) (hg : ∀ a, Ct e f (g a)) : Ct (d + e) (c + f) (bd x g) := by
  intro s b s2 h
  obtain ⟨a, s1, h1, h2⟩ := bd_inv h
  have h3 := hx s a s1 h1
  have h4 := hg a s1 b s2 h2
  omega
theorem Ct.mono {α : Type} {d c e f : Nat} {x : Ps α} (h : Ct d c x) (hd : e + c ≤ d + f) : Ct e f x := by
  intro s a s1 h1
  have := h s a s1 h1
  omega
theorem ct_ok {α : Type} {a : α} : Ct 0 0 (okP a) := by
  intro s b s1 h
  injection h with e1 e2
  subst e2
  omega
theorem ct_no {α : Type} {d e : Nat} {c i : Sg → Nat} : Ct d e (fun s => .no (c s) (i s) : Ps α) := fun s a s1 h => by cases h
theorem ct_if {α : Type} {d c : Nat} {b : Sg → Bool} {x y : Ps α} (hx : Ct d c x) (hy : Ct d c y) : Ct d c (fun s => if b s then x s else y s) := by
  intro s a s1 h
  by_cases hb : b s = true
  · exact hx s a s1 (by simpa [hb] using h)
  · exact hy s a s1 (by simpa [hb] using h)
theorem ct_at {α : Type} {d c : Nat} {x : Sg → Ps α} (h : ∀ s0, Ct d c (x s0)) : Ct d c (fun s => x s s) := fun s a s1 h1 => h s s a s1 h1
theorem ct_next : Ct 1 0 (nextP T) := by
  intro s a s1 h
  unfold nextP at h
  by_cases hm : 1000 < s.st.length
  · rw [if_pos hm] at h; cases h
  · rw [if_neg hm] at h
    injection h with h1 h2
    subst h2
    dsimp only
    omega
theorem ct_takeP (l : List (List UInt8)) : Ct 1 0 (takeP T l) := ct_if ct_next (ct_no (c := fun _ => 3) (i := fun s => s.at_))
theorem ct_takeK (k : Nat) : Ct 1 0 (takeK T k) := ct_if ct_next (ct_no (c := fun _ => 3) (i := fun s => s.at_))
theorem ct_putE (lo : Nat) (x : Ex) : Ct 0 1 (putE T lo x) := by
  intro s a s1 h
  unfold putE at h
  injection h with h1 h2
  subst h2
  simp only [List.length_append, List.length_singleton]
  omega
theorem ct_putS (lo : Nat) (x : Sm) : Ct 0 1 (putS T lo x) := by
  intro s a s1 h
  unfold putS at h
  injection h with h1 h2
  subst h2
  simp only [List.length_append, List.length_singleton]
  omega
theorem ct_putF (lo : Nat) (x : Fu) : Ct 0 0 (putF T lo x) := by
  intro s a s1 h
  unfold putF at h
  injection h with h1 h2
  subst h2
  dsimp only
  omega
theorem ct_listL {α : Type} {one : Ps α} (h1 : Ct 0 0 one) : ∀ k (out : List α), Ct 0 0 (listL T one k out)
  | 0, _ => ct_no (c := fun _ => 0) (i := fun _ => 0)
  | k + 1, out => by
    refine ct_if (x := Rs.ok out) ct_ok ?_
    exact ct_bd (d := 0) (c := 0) (e := 0) (f := 0) (by by_cases h : out.length = 0 <;> simp only [h, if_true, if_false] <;> first | exact ct_ok | exact (ct_takeP _).mono (by omega)) fun _ => ct_bd (d := 0) (c := 0) (e := 0) (f := 0) h1 fun x => ct_listL h1 k (out ++ [x])
theorem ct_list {α : Type} {one : Ps α} (h1 : Ct 0 0 one) : Ct 2 0 (listM T one) :=
  ct_bd (d := 1) (c := 0) (e := 1) (f := 0) (ct_takeP _) fun _ => ct_bd (d := 0) (c := 0) (e := 1) (f := 0) (ct_listL h1 _ []) fun _ => ct_bd (d := 1) (c := 0) (e := 0) (f := 0) (ct_takeP _) fun _ => ct_ok
theorem ct_pair {part : Ps Nat} (h : Ct 0 0 part) (lo a : Nat) : Ct 0 0 (pairM T part lo a) := (ct_bd ct_next fun _ => ct_bd h fun _ => ct_putE _ _).mono (by omega)
theorem ct_rowL {part : Ps Nat} (h : Ct 0 0 part) (signs : List (List UInt8)) (lo : Nat) : ∀ k a, Ct 0 0 (rowL T part signs lo k a)
  | 0, _ => ct_no (c := fun _ => 0) (i := fun _ => 0)
  | k + 1, a => ct_if (x := bd (pairM T part lo a) (rowL T part signs lo k)) (y := Rs.ok a) (ct_bd (d := 0) (c := 0) (e := 0) (f := 0) (ct_pair h lo a) fun b => ct_rowL h signs lo k b) ct_ok
theorem ct_row {part : Ps Nat} (h : Ct 0 0 part) (signs : List (List UInt8)) : Ct 0 0 (rowM T part signs) := ct_at (x := fun s => bd part (rowL T part signs (cur T s).lo (T.length + 1))) fun _ => ct_bd (d := 0) (c := 0) (e := 0) (f := 0) h fun a => ct_rowL h signs _ _ a
theorem ct_comparison {op : Ps Nat} (h : Ct 0 0 op) : Ct 0 0 (comparisonM T op) :=
  ct_at (x := fun s => bd (sumM T op) (fun a s1 => if isP T sgCmp s1 then pairM T (sumM T op) (cur T s).lo a s1 else .ok a s1)) fun s =>
    ct_bd (d := 0) (c := 0) (e := 0) (f := 0) (ct_row (ct_row h _) _) fun a => ct_if (x := pairM T (sumM T op) (cur T s).lo a) (y := Rs.ok a) (ct_pair (ct_row (ct_row h _) _) _ _) ct_ok
theorem ct_expression {op : Ps Nat} (h : Ct 0 0 op) : Ct 0 0 (expressionM T op) := ct_row (ct_row (ct_comparison h) _) _
theorem ct_number : Ct 1 0 (numberM T) := ct_bd (d := 1) (c := 0) (e := 0) (f := 0) (ct_takeK _) fun _ => ct_ok
theorem ct_index {e : Ps Nat} (h : Ct 0 0 e) : Ct 2 0 (indexM T e) := (ct_bd (ct_takeP _) fun _ => ct_bd h fun _ => ct_bd (ct_takeP _) fun _ => ct_ok).mono (by omega)
theorem ct_call {sub : Ps Nat} (h : Ct 0 0 sub) (lo : Nat) (name : List UInt8) : Ct 1 0 (callM T sub lo name) := (ct_bd (ct_list (ct_expression h)) fun _ => ct_putE _ _).mono (by omega)
theorem ct_reference {sub : Ps Nat} (h : Ct 0 0 sub) : Ct 0 0 (referenceM T sub) :=
  ct_at (x := fun s => bd (takeK T 1) (fun name s1 =>
  if isP T [[40]] s1 then callM T sub (cur T s).lo name s1
  else if isP T [[91]] s1 then bd (indexM T (expressionM T sub)) (fun a => putE T (cur T s).lo { kind := 5, name := name, a := a }) s1
  else putE T (cur T s).lo { kind := 4, name := name } s1)) fun s => (ct_bd (e := 0) (f := 1) (ct_takeK _) fun name =>
    ct_if (x := callM T sub (cur T s).lo name) ((ct_call h _ _).mono (by omega)) (ct_if (x := bd (indexM T (expressionM T sub)) (fun a => putE T (cur T s).lo { kind := 5, name := name, a := a })) ((ct_bd (ct_index (ct_expression h)) fun _ => ct_putE _ _).mono (by omega)) (ct_putE _ _))).mono (by omega)
theorem ct_word : Ct 0 0 (wordM T) := ct_at (x := fun s => bd (takeP T [kTrue, kFalse, kRead]) (fun x => putE T (cur T s).lo { kind := if x = kTrue then 2 else if x = kFalse then 3 else 7 })) fun _ => (ct_bd (ct_takeP _) fun _ => ct_putE _ _).mono (by omega)
theorem ct_operandS {sub : Ps Nat} (h : Ct 0 0 sub) : Ct 0 0 (operandS T sub) :=
  ct_at (x := fun s0 s =>
  if isP T [[45], [33]] s then bd (nextP T) (fun o => bd sub fun a => putE T (cur T s0).lo { kind := 8, op := o, a := a }) s
  else if isP T [[40]] s then bd (takeP T [[40]]) (fun _ => bd (expressionM T sub) fun a => bd (takeP T [[41]]) fun _ => okP a) s
  else if isK T 1 s then referenceM T sub s
  else if isK T 2 s then bd (numberM T) (fun n => putE T (cur T s0).lo { kind := 1, num := n }) s
  else wordM T s) fun s0 =>
    ct_if (x := bd (nextP T) (fun o => bd sub fun a => putE T (cur T s0).lo { kind := 8, op := o, a := a })) ((ct_bd ct_next fun _ => ct_bd h fun _ => ct_putE _ _).mono (by omega))
      (ct_if (x := bd (takeP T [[40]]) (fun _ => bd (expressionM T sub) fun a => bd (takeP T [[41]]) fun _ => okP a)) ((ct_bd (ct_takeP _) fun _ => ct_bd (ct_expression h) fun _ => ct_bd (ct_takeP _) fun _ => ct_ok).mono (by omega))
        (ct_if (x := referenceM T sub) (ct_reference h) (ct_if (x := bd (numberM T) (fun n => putE T (cur T s0).lo { kind := 1, num := n })) ((ct_bd ct_number fun _ => ct_putE _ _).mono (by omega)) ct_word)))
theorem ct_operand : ∀ k, Ct 0 0 (operandM T k)
  | 0 => ct_no (c := fun _ => 4) (i := fun s => s.at_)
  | k + 1 => ct_operandS (ct_operand k)
theorem ct_blockL {one : Ps Nat} (h1 : Ct 0 0 one) : ∀ k (out : List Nat), Ct 0 0 (blockL T one k out)
  | 0, _ => ct_no (c := fun _ => 0) (i := fun _ => 0)
  | k + 1, out => ct_if (x := Rs.ok out) ct_ok (ct_bd (d := 0) (c := 0) (e := 0) (f := 0) h1 fun x => ct_blockL h1 k (out ++ [x]))
theorem ct_blkOf {one : Ps Nat} (h1 : Ct 0 0 one) (k : Nat) : Ct 2 0 (blkOf T k one) := by
  unfold blkOf
  by_cases h : k = 0
  · rw [if_pos h]; exact ct_no (c := fun _ => 4) (i := fun s => s.at_)
  · rw [if_neg h]; exact (ct_bd (ct_takeP _) fun _ => ct_bd (ct_blockL h1 _ []) fun _ => ct_bd (ct_takeP _) fun _ => ct_ok).mono (by omega)
theorem ct_otherwise {blk : Ps (List Nat)} {stm : Ps Nat} (hb : Ct 2 0 blk) (hs : Ct 0 0 stm) : Ct 0 0 (otherwiseM T blk stm) :=
  ct_if (x := bd stm (fun i => okP [i])) (ct_bd (d := 0) (c := 0) (e := 0) (f := 0) hs fun _ => ct_ok) (hb.mono (by omega))
theorem ct_choice {ex : Ps Nat} {blk : Ps (List Nat)} {stm : Ps Nat} (he : Ct 0 0 ex) (hb : Ct 2 0 blk) (hs : Ct 0 0 stm) : Ct 1 0 (choiceM T ex blk stm) :=
  (ct_bd (d := 1) (c := 0) (e := 2) (f := 0) (ct_takeP _) fun _ => ct_bd (d := 0) (c := 0) (e := 2) (f := 0) he fun a => ct_bd (d := 2) (c := 0) (e := 0) (f := 0) hb fun l =>
    ct_if (α := Sm) (x := bd (takeP T [kElse]) (fun _ => bd (otherwiseM T blk stm) fun m => okP { kind := 5, a := a, thn := l, els := m })) (y := Rs.ok { kind := 5, a := a, thn := l }) ((ct_bd (ct_takeP _) fun _ => ct_bd (ct_otherwise hb hs) fun _ => ct_ok).mono (by omega)) ct_ok).mono (by omega)
theorem ct_loop {ex : Ps Nat} {blk : Ps (List Nat)} (he : Ct 0 0 ex) (hb : Ct 2 0 blk) : Ct 1 0 (loopM T ex blk) :=
  (ct_bd (ct_takeP _) fun _ => ct_bd he fun _ => ct_bd hb fun _ => ct_ok).mono (by omega)
theorem ct_named {ex sub : Ps Nat} (he : Ct 0 0 ex) (hs : Ct 0 0 sub) : Ct 1 0 (namedM T ex sub) :=
  ct_at (α := Sm) (x := fun s => bd (takeK T 1) (fun name s1 =>
  if isP T [[40]] s1 then bd (callM T sub (cur T s).lo name) (fun a => okP { kind := 11, a := a }) s1
  else if isP T [[91]] s1 then bd (indexM T ex) (fun a => bd (takeP T [[61]]) fun _ => bd ex fun b => okP { kind := 4, name := name, a := a, b := b }) s1
  else bd (takeP T [[61]]) (fun _ => bd ex fun a => okP { kind := 3, name := name, a := a }) s1)) fun s => ct_bd (d := 1) (c := 0) (e := 0) (f := 0) (ct_takeK _) fun name =>
    ct_if (α := Sm) (x := bd (callM T sub (cur T s).lo name) (fun a => okP { kind := 11, a := a })) ((ct_bd (ct_call hs _ _) fun _ => ct_ok).mono (by omega))
      (ct_if (α := Sm) (x := bd (indexM T ex) (fun a => bd (takeP T [[61]]) fun _ => bd ex fun b => okP { kind := 4, name := name, a := a, b := b })) ((ct_bd (ct_index he) fun _ => ct_bd (ct_takeP _) fun _ => ct_bd he fun _ => ct_ok).mono (by omega))
        ((ct_bd (ct_takeP _) fun _ => ct_bd he fun _ => ct_ok).mono (by omega)))
theorem ct_variable {ex : Ps Nat} (he : Ct 0 0 ex) : Ct 1 0 (variableM T ex) :=
  (ct_bd (d := 1) (c := 0) (e := 0) (f := 0) (ct_takeP _) fun _ => ct_bd (d := 0) (c := 0) (e := 0) (f := 0) ((ct_takeK _).mono (by omega)) fun _ => ct_bd (d := 0) (c := 0) (e := 0) (f := 0) ((ct_takeP _).mono (by omega)) fun x => by
    by_cases h : x = [61]
    · rw [if_pos h]; exact (ct_bd he fun _ => ct_ok).mono (by omega)
    · rw [if_neg h]; exact (ct_bd ct_number fun _ => ct_bd (ct_takeP _) fun _ => ct_ok).mono (by omega))
theorem ct_answer {ex : Ps Nat} (he : Ct 0 0 ex) : Ct 1 0 (answerM T ex) :=
  ct_bd (d := 1) (c := 0) (e := 0) (f := 0) (ct_takeP _) fun _ => ct_if (α := Sm) (x := Rs.ok { kind := 9, a := -1 }) ct_ok ((ct_bd he fun _ => ct_ok).mono (by omega))
theorem ct_simple {ex sub : Ps Nat} (he : Ct 0 0 ex) (hs : Ct 0 0 sub) : Ct 1 0 (simpleM T ex sub) :=
  ct_if (α := Sm) (x := namedM T ex sub) (ct_named he hs) (ct_if (α := Sm) (x := variableM T ex) (ct_variable he) (ct_if (α := Sm) (x := answerM T ex) (ct_answer he)
    (ct_if (α := Sm) (x := bd (takeP T [kPrint]) (fun _ => bd ex fun a => okP { kind := 10, a := a })) ((ct_bd (ct_takeP _) fun _ => ct_bd he fun _ => ct_ok).mono (by omega)) ((ct_bd (ct_takeP _) fun _ => ct_ok).mono (by omega)))))
theorem ct_fields {ex sub : Ps Nat} {blk : Ps (List Nat)} {stm : Ps Nat} (he : Ct 0 0 ex) (hu : Ct 0 0 sub) (hb : Ct 2 0 blk) (hs : Ct 0 0 stm) : Ct 1 0 (fieldsM T ex sub blk stm) :=
  ct_if (x := choiceM T ex blk stm) (ct_choice he hb hs) (ct_if (x := loopM T ex blk) (ct_loop he hb) ((ct_bd (ct_simple he hu) fun _ => ct_bd (ct_takeP _) fun _ => ct_ok).mono (by omega)))
theorem ct_stmtS {ex sub : Ps Nat} {blk : Ps (List Nat)} {stm : Ps Nat} (he : Ct 0 0 ex) (hu : Ct 0 0 sub) (hb : Ct 2 0 blk) (hs : Ct 0 0 stm) : Ct 0 0 (stmtS T ex sub blk stm) :=
  ct_at (x := fun s => bd (fieldsM T ex sub blk stm) (putS T (cur T s).lo)) fun _ => (ct_bd (ct_fields he hu hb hs) fun _ => ct_putS _ _).mono (by omega)
theorem ct_stmt : ∀ k, Ct 0 0 (stmtM T k)
  | 0 => ct_no (c := fun _ => 4) (i := fun s => s.at_)
  | k + 1 => ct_stmtS (ct_expression (ct_operand (k + 1))) (ct_operand k) (ct_blkOf (ct_stmt k) k) (ct_stmt k)
theorem ct_function : Ct 0 0 (functionM T) :=
  ct_at (x := fun s0 s =>
  if isP T [kFunc] s && s.fn.length == 32 then .no 5 s.at_
  else bd (takeP T [kFunc]) (fun _ => bd (takeK T 1) fun name => bd (listM T (takeK T 1)) fun ps => bd (fun s1 => if isP T [kInt] s1 then bd (takeP T [kInt]) (fun _ => okP 1) s1 else .ok 4 s1) fun ty => bd (blockM T 64) fun body => putF T (cur T s0).lo { name := name, params := ps, ty := ty, body := body }) s) fun _ =>
    ct_if (b := fun s => isP T [kFunc] s && s.fn.length == 32) (ct_no (c := fun _ => 5) (i := fun s => s.at_))
      (ct_bd (d := 0) (c := 0) (e := 0) (f := 0) ((ct_takeP _).mono (by omega)) fun _ => ct_bd (d := 0) (c := 0) (e := 0) (f := 0) ((ct_takeK _).mono (by omega)) fun _ => ct_bd (d := 0) (c := 0) (e := 0) (f := 0) ((ct_list ((ct_takeK _).mono (by omega))).mono (by omega)) fun _ => ct_bd (d := 0) (c := 0) (e := 0) (f := 0) (ct_if (x := bd (takeP T [kInt]) (fun _ => okP 1)) (y := Rs.ok 4) ((ct_bd (ct_takeP _) fun _ => ct_ok).mono (by omega)) ct_ok) fun _ => ct_bd (d := 0) (c := 0) (e := 0) (f := 0) ((ct_blkOf (ct_stmt 64) 64).mono (by omega)) fun _ => ct_putF _ _)
theorem ct_programL : ∀ k, Ct 0 0 (programL T k)
  | 0 => ct_no (c := fun _ => 0) (i := fun _ => 0)
  | k + 1 => ct_if (x := Rs.ok ()) ct_ok (ct_bd (d := 0) (c := 0) (e := 0) (f := 0) ct_function fun _ => ct_programL k)
end
theorem parse_cnt {t : List UInt8} {s : Sg} (h : parseT t = .good s) : s.ex.length + s.st.length ≤ t.length := by
  unfold parseT at h
  cases hp : (toks t 0).2 with
  | some p => rw [hp] at h; cases h
  | none =>
    rw [hp] at h
    dsimp only at h
    have hl : (tksL t).length ≤ t.length + 1 := by
      have := toks_len' t
      unfold tksL
      simp; omega
    have hf := fine_program (tksL_ok t hp) start (tksL_ok t hp).pos
    cases hr : programM (tksL t) start with
    | no c i => rw [hr] at h; cases h
    | ok u s' =>
      rw [hr] at h hf
      injection h with h1
      subst h1
      unfold programM at hr
      have h2 := (ct_bd (ct_function (T := tksL t)) fun _ => ct_programL _) start u s' hr
      obtain ⟨_, h3⟩ := hf
      have e0 : start.ex.length = 0 := rfl
      have e1 : start.st.length = 0 := rfl
      have e2 : start.at_ = 0 := rfl
      omega
end Go.Proofs.YtccmodefjgjpeaaGreatDoor
