/-
  Each part of the grammar goes on, or ends at a token that there is.
-/
import Derived.Test.YtccmodefjgjpeaaGreatDoorPM
namespace Go.Proofs.YtccmodefjgjpeaaGreatDoor

theorem nin1 {a : UInt8} {l : List UInt8} : [] ∉ ([a :: l] : List (List UInt8)) := by simp
theorem fine_loop {T : List Tk} {α : Type} {x : Ps α} (h : ∀ s, s.at_ < T.length → ∀ m, m ≤ 0 → match x s with
  | .ok _ s' => s.at_ + m ≤ s'.at_ ∧ s'.at_ < T.length
  | .no c i => (c = 3 ∨ c = 4 ∨ c = 5) ∧ i < T.length) : Fine T 0 x := fun s hs => h s hs 0 (Nat.le_refl _)

theorem fine_next' {T : List Tk} {s : Sg} (hs : s.at_ < T.length) (h1 : s.at_ + 1 < T.length) : match nextP T s with
  | .ok _ s' => s.at_ + 1 ≤ s'.at_ ∧ s'.at_ < T.length
  | .no c i => (c = 3 ∨ c = 4 ∨ c = 5) ∧ i < T.length := by
  unfold nextP
  by_cases hm : 1000 < s.st.length
  · rw [if_pos hm]; exact ⟨.inr (.inr rfl), hs⟩
  · rw [if_neg hm]; exact ⟨Nat.le_refl _, h1⟩
/-- Behind a test that the token isn't the last one. -/
theorem fine_if {T : List Tk} {α : Type} {m : Nat} {c : Sg → Bool} {f : List UInt8 → Ps α} {y : Ps α} (hc : ∀ s, s.at_ < T.length → c s = true → s.at_ + 1 < T.length) (hf : ∀ o, Fine T m (f o)) (hy : Fine T (1 + m) y) :
    Fine T (1 + m) (fun s => if c s then bd (nextP T) f s else y s) := by
  intro s hs
  by_cases h : c s = true
  · simp only [h, if_true]
    have h1 := fine_next' hs (hc s hs h)
    cases hr : nextP T s with
    | no c i => rw [bd_no hr]; rw [hr] at h1; exact h1
    | ok a s' =>
      rw [bd_ok hr]
      rw [hr] at h1
      have h2 := hf a s' h1.2
      cases hr2 : f a s' with
      | no c i => rw [hr2] at h2; exact h2
      | ok b s2 => rw [hr2] at h2; exact ⟨by omega, h2.2⟩
  · have := hy s hs; simpa [h] using this

/-- A loop's, which has rounds enough. -/
def FineL (T : List Tk) {α : Type} (n : Nat) (x : Ps α) : Prop := ∀ s, s.at_ < T.length → T.length ≤ n + s.at_ → match x s with
  | .ok _ s' => s.at_ ≤ s'.at_ ∧ s'.at_ < T.length
  | .no c i => (c = 3 ∨ c = 4 ∨ c = 5) ∧ i < T.length
theorem FineL.fine {T : List Tk} {α : Type} {n : Nat} {x : Ps α} (h : FineL T n x) (hn : T.length ≤ n) : Fine T 0 x := fun s hs => h s hs (by omega)
theorem fineL_bd {T : List Tk} {α β : Type} {n : Nat} {x : Ps α} {f : α → Ps β} (hx : Fine T 1 x) (hf : ∀ a, FineL T n (f a)) {s : Sg} (hs : s.at_ < T.length) (hn : T.length ≤ n + 1 + s.at_) : match bd x f s with
  | .ok _ s' => s.at_ ≤ s'.at_ ∧ s'.at_ < T.length
  | .no c i => (c = 3 ∨ c = 4 ∨ c = 5) ∧ i < T.length := by
  have h1 := hx s hs
  cases hr : x s with
  | no c i => rw [bd_no hr]; rw [hr] at h1; exact h1
  | ok a s' =>
    rw [bd_ok hr]
    rw [hr] at h1
    have h2 := hf a s' h1.2 (by omega)
    cases hr2 : f a s' with
    | no c i => rw [hr2] at h2; exact h2
    | ok b s2 => rw [hr2] at h2; exact ⟨by omega, h2.2⟩

theorem fine_listL {T : List Tk} (hT : TkOk T) {α : Type} {one : Ps α} (h1 : Fine T 1 one) (n : Nat) (out : List α) : FineL T n (listL T one n out) := by
  induction n generalizing out with
  | zero => intro s hs hn; omega
  | succ n ih =>
    intro s hs hn
    unfold listL
    by_cases h : isP T [[41]] s = true
    · simp only [h, if_true]; exact ⟨Nat.le_refl _, hs⟩
    · simp only [h]
      by_cases h0 : out.length = 0
      · simp only [h0, if_true]
        exact fineL_bd (x := one) h1 (fun a => ih _) hs hn
      · simp only [h0, if_false]
        have h2 := fine_takeP hT (l := [[44]]) nin1 s hs
        simp only [Bool.false_eq_true, if_false]
        cases hr : takeP T [[44]] s with
        | no c i => rw [bd_no hr]; rw [hr] at h2; exact h2
        | ok a s' =>
          rw [bd_ok hr]
          rw [hr] at h2
          have h3 := fineL_bd (x := one) (f := fun x => listL T one n (out ++ [x])) h1 (fun a => ih _) h2.2 (by omega)
          cases hr2 : bd one (fun x => listL T one n (out ++ [x])) s' with
          | no c i => rw [hr2] at h3; exact h3
          | ok b s2 => rw [hr2] at h3; exact ⟨by omega, h3.2⟩
theorem fine_list {T : List Tk} (hT : TkOk T) {α : Type} {one : Ps α} (h1 : Fine T 1 one) : Fine T 1 (listM T one) :=
  (fine_bd (fine_takeP hT nin1) fun _ => fine_bd ((fine_listL hT h1 _ _).fine (by omega)) fun _ => fine_bd ((fine_takeP hT nin1).mono (Nat.zero_le 1)) fun _ => fine_ok _)
theorem fine_pair {T : List Tk} {c : Sg → Bool} (hc : ∀ s, s.at_ < T.length → c s = true → s.at_ + 1 < T.length) {part : Ps Nat} (h : Fine T 0 part) (lo a : Nat) {y : Ps Nat} (hy : Fine T 0 y) : Fine T 0 (fun s => if c s then pairM T part lo a s else y s) := by
  intro s hs
  by_cases hcs : c s = true
  · have := fine_if (y := fun s => .no 3 s.at_) hc (fun o => fine_bd h fun b => fine_putE (T := T) lo { kind := 9, op := o, a := a, b := b }) (fine_no 3 (.inl rfl)) s hs
    simp only [hcs, if_true] at this ⊢
    unfold pairM
    cases hr : bd (nextP T) (fun o => bd part fun b => putE T lo { kind := 9, op := o, a := a, b := b }) s with
    | no c i => rw [hr] at this; exact this
    | ok b s2 => rw [hr] at this; exact ⟨by omega, this.2⟩
  · have := hy s hs; simpa [hcs] using this
theorem fine_rowL {T : List Tk} (hT : TkOk T) {part : Ps Nat} (h : Fine T 0 part) {signs : List (List UInt8)} (hl : [] ∉ signs) (lo : Nat) (n : Nat) (a : Nat) : FineL T n (rowL T part signs lo n a) := by
  induction n generalizing a with
  | zero => intro s hs hn; omega
  | succ n ih =>
    intro s hs hn
    unfold rowL
    by_cases hi : isP T signs s = true
    · simp only [hi, if_true]
      have := fine_if (T := T) (c := isP T signs) (y := fun s => .no 3 s.at_) (fun _ hs hi => hT.isP hl hs hi) (fun o => fine_bd h fun b => fine_putE (T := T) lo { kind := 9, op := o, a := a, b := b }) (fine_no 3 (.inl rfl)) s hs
      simp only [hi, if_true] at this
      cases hr : pairM T part lo a s with
      | no c i => rw [bd_no hr]; unfold pairM at hr; rw [hr] at this; exact this
      | ok b s' =>
        rw [bd_ok hr]
        unfold pairM at hr
        rw [hr] at this
        have h3 := ih b s' this.2 (by omega)
        cases hr2 : rowL T part signs lo n b s' with
        | no c i => rw [hr2] at h3; exact h3
        | ok b s2 => rw [hr2] at h3; exact ⟨by omega, h3.2⟩
    · simp only [hi]; exact ⟨Nat.le_refl _, hs⟩
theorem fine_row {T : List Tk} (hT : TkOk T) {part : Ps Nat} {m : Nat} (h : Fine T m part) {signs : List (List UInt8)} (hl : [] ∉ signs) : Fine T m (rowM T part signs) :=
  fine_at (x := fun s => bd part (rowL T part signs (cur T s).lo (T.length + 1))) fun _ => fine_bd (n := 0) h fun _ => (fine_rowL hT (h.mono (Nat.zero_le _)) hl _ _ _).fine (by omega)
theorem fine_sum {T : List Tk} (hT : TkOk T) {op : Ps Nat} {m : Nat} (h : Fine T m op) : Fine T m (sumM T op) := fine_row hT (fine_row hT h (by decide)) (by decide)
theorem fine_comparison {T : List Tk} (hT : TkOk T) {op : Ps Nat} {m : Nat} (h : Fine T m op) : Fine T m (comparisonM T op) :=
  fine_at (x := fun s0 => bd (sumM T op) (fun a s1 => if isP T sgCmp s1 then pairM T (sumM T op) (cur T s0).lo a s1 else .ok a s1)) fun _ => fine_bd (n := 0) (fine_sum hT h) fun a => fine_pair (y := okP a) (fun _ hs hi => hT.isP (by decide) hs hi) ((fine_sum hT h).mono (Nat.zero_le _)) _ _ (fine_ok a)
theorem fine_expression {T : List Tk} (hT : TkOk T) {op : Ps Nat} {m : Nat} (h : Fine T m op) : Fine T m (expressionM T op) := fine_row hT (fine_row hT (fine_comparison hT h) (by decide)) (by decide)
theorem fine_number {T : List Tk} (hT : TkOk T) : Fine T 1 (numberM T) := fine_bd (n := 0) (fine_takeK hT (by decide)) fun _ => fine_ok _
theorem fine_index {T : List Tk} (hT : TkOk T) {e : Ps Nat} (h : Fine T 0 e) : Fine T 1 (indexM T e) :=
  fine_bd (n := 0) (fine_takeP hT nin1) fun _ => fine_bd (n := 0) h fun _ => fine_bd (n := 0) ((fine_takeP hT nin1).mono (Nat.zero_le _)) fun _ => fine_ok _
theorem fine_call {T : List Tk} (hT : TkOk T) {sub : Ps Nat} (h : Fine T 1 sub) (lo : Nat) (name : List UInt8) : Fine T 1 (callM T sub lo name) := fine_bd (n := 0) (fine_list hT (fine_expression hT h)) fun _ => fine_putE _ _
theorem fine_reference {T : List Tk} (hT : TkOk T) {sub : Ps Nat} (h : Fine T 1 sub) : Fine T 1 (referenceM T sub) := by
  refine fine_at (x := fun s => bd (takeK T 1) (fun name s1 => if isP T [[40]] s1 then callM T sub (cur T s).lo name s1 else if isP T [[91]] s1 then bd (indexM T (expressionM T sub)) (fun a => putE T (cur T s).lo { kind := 5, name := name, a := a }) s1 else putE T (cur T s).lo { kind := 4, name := name } s1)) fun _ => fine_bd (n := 0) (fine_takeK hT (by decide)) fun _ => ?_
  exact fine_ite ((fine_call hT h _ _).mono (Nat.zero_le _)) (fine_ite ((fine_bd (n := 0) (fine_index hT ((fine_expression hT h).mono (Nat.zero_le _))) fun _ => fine_putE _ _).mono (Nat.zero_le _)) (fine_putE _ _))
theorem fine_word {T : List Tk} (hT : TkOk T) : Fine T 1 (wordM T) :=
  fine_at (x := fun s => bd (takeP T [kTrue, kFalse, kRead]) (fun x => putE T (cur T s).lo { kind := if x = kTrue then 2 else if x = kFalse then 3 else 7 })) fun _ => fine_bd (n := 0) (fine_takeP hT (by decide)) fun _ => fine_putE _ _
theorem fine_operandS {T : List Tk} (hT : TkOk T) {sub : Ps Nat} (h : Fine T 1 sub) : Fine T 1 (operandS T sub) := by
  refine fine_at (x := fun s0 s => if isP T [[45], [33]] s then bd (nextP T) (fun o => bd sub fun a => putE T (cur T s0).lo { kind := 8, op := o, a := a }) s
    else if isP T [[40]] s then bd (takeP T [[40]]) (fun _ => bd (expressionM T sub) fun a => bd (takeP T [[41]]) fun _ => okP a) s
    else if isK T 1 s then referenceM T sub s
    else if isK T 2 s then bd (numberM T) (fun n => putE T (cur T s0).lo { kind := 1, num := n }) s
    else wordM T s) fun _ => ?_
  refine fine_if (m := 0) (fun _ hs hi => hT.isP (by decide) hs hi) (fun _ => fine_bd (n := 0) (h.mono (Nat.zero_le _)) fun _ => fine_putE _ _) ?_
  refine fine_ite (fine_bd (n := 0) (fine_takeP hT nin1) fun _ => fine_bd (n := 0) ((fine_expression hT h).mono (Nat.zero_le _)) fun _ => fine_bd (n := 0) ((fine_takeP hT nin1).mono (Nat.zero_le _)) fun _ => fine_ok _) ?_
  exact fine_ite (fine_reference hT h) (fine_ite (fine_bd (n := 0) (fine_number hT) fun _ => fine_putE _ _) (fine_word hT))
theorem fine_operand {T : List Tk} (hT : TkOk T) (k : Nat) : Fine T 1 (operandM T k) := by
  induction k with
  | zero => exact fine_no 4 (by decide)
  | succ k ih => exact fine_operandS hT ih
theorem fine_blockL {T : List Tk} {one : Ps Nat} (h1 : Fine T 1 one) (n : Nat) (out : List Nat) : FineL T n (blockL T one n out) := by
  induction n generalizing out with
  | zero => intro s hs hn; omega
  | succ n ih =>
    intro s hs hn
    unfold blockL
    by_cases h : isP T [[125]] s = true
    · simp only [h, if_true]; exact ⟨Nat.le_refl _, hs⟩
    · simp only [h]
      exact fineL_bd (x := one) h1 (fun a => ih _) hs hn
theorem fine_blockS {T : List Tk} (hT : TkOk T) {one : Ps Nat} (h1 : Fine T 1 one) : Fine T 1 (blockS T one) :=
  fine_bd (n := 0) (fine_takeP hT nin1) fun _ => fine_bd (n := 0) ((fine_blockL h1 _ _).fine (by omega)) fun _ => fine_bd (n := 0) ((fine_takeP hT nin1).mono (Nat.zero_le 1)) fun _ => fine_ok _
theorem fine_blkOf {T : List Tk} (hT : TkOk T) {one : Ps Nat} (h1 : Fine T 1 one) (k : Nat) : Fine T 1 (blkOf T k one) := by
  unfold blkOf
  split
  · exact fine_no 4 (by decide)
  · exact fine_blockS hT h1
theorem fine_otherwise {T : List Tk} {blk : Ps (List Nat)} {stm : Ps Nat} (hb : Fine T 0 blk) (hs : Fine T 0 stm) : Fine T 0 (otherwiseM T blk stm) := fine_ite (fine_bd (n := 0) hs fun _ => fine_ok _) hb
theorem fine_choice {T : List Tk} (hT : TkOk T) {ex : Ps Nat} {blk : Ps (List Nat)} {stm : Ps Nat} (he : Fine T 1 ex) (hb : Fine T 1 blk) (hs : Fine T 1 stm) : Fine T 1 (choiceM T ex blk stm) := by
  refine fine_bd (n := 0) (fine_takeP hT (by decide)) fun _ => fine_bd (n := 0) (he.mono (Nat.zero_le _)) fun _ => fine_bd (n := 0) (hb.mono (Nat.zero_le _)) fun l => ?_
  exact fine_ite (y := okP _) (fine_bd (n := 0) ((fine_takeP hT (by decide)).mono (Nat.zero_le _)) fun _ => fine_bd (n := 0) (fine_otherwise (hb.mono (Nat.zero_le _)) (hs.mono (Nat.zero_le _))) fun _ => fine_ok _) (fine_ok _)
theorem fine_loopM {T : List Tk} (hT : TkOk T) {ex : Ps Nat} {blk : Ps (List Nat)} (he : Fine T 1 ex) (hb : Fine T 1 blk) : Fine T 1 (loopM T ex blk) :=
  fine_bd (n := 0) (fine_takeP hT (by decide)) fun _ => fine_bd (n := 0) (he.mono (Nat.zero_le _)) fun _ => fine_bd (n := 0) (hb.mono (Nat.zero_le _)) fun _ => fine_ok _
theorem fine_named {T : List Tk} (hT : TkOk T) {ex sub : Ps Nat} (he : Fine T 1 ex) (hs : Fine T 1 sub) : Fine T 1 (namedM T ex sub) := by
  refine fine_at (x := fun s => bd (takeK T 1) (fun name s1 =>
    if isP T [[40]] s1 then bd (callM T sub (cur T s).lo name) (fun a => okP ({ kind := 11, a := a } : Sm)) s1
    else if isP T [[91]] s1 then bd (indexM T ex) (fun a => bd (takeP T [[61]]) fun _ => bd ex fun b => okP ({ kind := 4, name := name, a := a, b := b } : Sm)) s1
    else bd (takeP T [[61]]) (fun _ => bd ex fun a => okP ({ kind := 3, name := name, a := a } : Sm)) s1)) fun _ => fine_bd (n := 0) (fine_takeK hT (by decide)) fun _ => ?_
  have he0 := he.mono (Nat.zero_le _)
  refine fine_ite (fine_bd (n := 0) ((fine_call hT hs _ _).mono (Nat.zero_le _)) fun _ => fine_ok _) (fine_ite (fine_bd (n := 0) ((fine_index hT he0).mono (Nat.zero_le _)) fun _ => ?_) ?_)
  · exact fine_bd (n := 0) ((fine_takeP hT nin1).mono (Nat.zero_le _)) fun _ => fine_bd (n := 0) he0 fun _ => fine_ok _
  · exact fine_bd (n := 0) ((fine_takeP hT nin1).mono (Nat.zero_le _)) fun _ => fine_bd (n := 0) he0 fun _ => fine_ok _
theorem fine_variable {T : List Tk} (hT : TkOk T) {ex : Ps Nat} (he : Fine T 1 ex) : Fine T 1 (variableM T ex) := by
  refine fine_bd (n := 0) (fine_takeP hT (by decide)) fun _ => fine_bd (n := 0) ((fine_takeK hT (by decide)).mono (Nat.zero_le _)) fun _ => fine_bd (n := 0) ((fine_takeP hT (by decide)).mono (Nat.zero_le _)) fun x => ?_
  by_cases h : x = [61]
  · rw [if_pos h]; exact fine_bd (n := 0) (he.mono (Nat.zero_le _)) fun _ => fine_ok _
  · rw [if_neg h]; exact fine_bd (n := 0) ((fine_number hT).mono (Nat.zero_le _)) fun _ => fine_bd (n := 0) ((fine_takeP hT nin1).mono (Nat.zero_le _)) fun _ => fine_ok _
theorem fine_answer {T : List Tk} (hT : TkOk T) {ex : Ps Nat} (he : Fine T 1 ex) : Fine T 1 (answerM T ex) :=
  fine_bd (n := 0) (fine_takeP hT (by decide)) fun _ => fine_ite (x := okP _) (fine_ok _) (fine_bd (n := 0) (he.mono (Nat.zero_le _)) fun _ => fine_ok _)
theorem fine_simple {T : List Tk} (hT : TkOk T) {ex sub : Ps Nat} (he : Fine T 1 ex) (hs : Fine T 1 sub) : Fine T 1 (simpleM T ex sub) :=
  fine_ite (fine_named hT he hs) (fine_ite (fine_variable hT he) (fine_ite (fine_answer hT he) (fine_ite (fine_bd (n := 0) (fine_takeP hT (by decide)) fun _ => fine_bd (n := 0) (he.mono (Nat.zero_le _)) fun _ => fine_ok _) (fine_bd (n := 0) (fine_takeP hT (by decide)) fun _ => fine_ok _))))
theorem fine_fields {T : List Tk} (hT : TkOk T) {ex sub : Ps Nat} {blk : Ps (List Nat)} {stm : Ps Nat} (he : Fine T 1 ex) (hs : Fine T 1 sub) (hb : Fine T 1 blk) (hm : Fine T 1 stm) : Fine T 1 (fieldsM T ex sub blk stm) :=
  fine_ite (fine_choice hT he hb hm) (fine_ite (fine_loopM hT he hb) (fine_bd (n := 0) (fine_simple hT he hs) fun _ => fine_bd (n := 0) ((fine_takeP hT nin1).mono (Nat.zero_le _)) fun _ => fine_ok _))
theorem fine_stmtS {T : List Tk} (hT : TkOk T) {ex sub : Ps Nat} {blk : Ps (List Nat)} {stm : Ps Nat} (he : Fine T 1 ex) (hs : Fine T 1 sub) (hb : Fine T 1 blk) (hm : Fine T 1 stm) : Fine T 1 (stmtS T ex sub blk stm) :=
  fine_at (x := fun s => bd (fieldsM T ex sub blk stm) (putS T (cur T s).lo)) fun _ => fine_bd (n := 0) (fine_fields hT he hs hb hm) fun _ => fine_putS _ _
theorem fine_stmt {T : List Tk} (hT : TkOk T) (k : Nat) : Fine T 1 (stmtM T k) := by
  induction k with
  | zero => exact fine_no 4 (by decide)
  | succ k ih => exact fine_stmtS hT (fine_expression hT (fine_operand hT _)) (fine_operand hT _) (fine_blkOf hT ih _) ih
theorem fine_block {T : List Tk} (hT : TkOk T) (k : Nat) : Fine T 1 (blockM T k) := fine_blkOf hT (fine_stmt hT k) k
theorem fine_function {T : List Tk} (hT : TkOk T) : Fine T 1 (functionM T) := by
  refine fine_at (x := fun s0 s => if isP T [kFunc] s && s.fn.length == 32 then .no 5 s.at_
    else bd (takeP T [kFunc]) (fun _ => bd (takeK T 1) fun name => bd (listM T (takeK T 1)) fun ps => bd (fun s1 => if isP T [kInt] s1 then bd (takeP T [kInt]) (fun _ => okP 1) s1 else .ok 4 s1) fun ty => bd (blockM T 64) fun body => putF T (cur T s0).lo { name := name, params := ps, ty := ty, body := body }) s) fun _ => ?_
  refine fine_ite (c := fun s => isP T [kFunc] s && s.fn.length == 32) (fine_no 5 (by decide)) (fine_bd (n := 0) (fine_takeP hT (by decide)) fun _ => fine_bd (n := 0) ((fine_takeK hT (by decide)).mono (Nat.zero_le _)) fun _ => fine_bd (n := 0) ((fine_list hT (fine_takeK hT (by decide))).mono (Nat.zero_le _)) fun _ => fine_bd (n := 0) ?_ fun _ => fine_bd (n := 0) ((fine_block hT _).mono (Nat.zero_le _)) fun _ => fine_putF _ _)
  exact fine_ite (y := okP 4) (fine_bd (n := 0) ((fine_takeP hT (by decide)).mono (Nat.zero_le _)) fun _ => fine_ok _) (fine_ok _)
theorem fine_programL {T : List Tk} (hT : TkOk T) (n : Nat) : FineL T n (programL T n) := by
  induction n with
  | zero => intro s hs hn; omega
  | succ n ih =>
    intro s hs hn
    unfold programL
    by_cases h : isK T 0 s = true
    · simp only [h, if_true]; exact ⟨Nat.le_refl _, hs⟩
    · simp only [h]
      exact fineL_bd (x := functionM T) (fine_function hT) (fun a => ih) hs hn
theorem fine_program {T : List Tk} (hT : TkOk T) : Fine T 1 (programM T) := fine_bd (n := 0) (fine_function hT) fun _ => (fine_programL hT _).fine (by omega)

end Go.Proofs.YtccmodefjgjpeaaGreatDoor
