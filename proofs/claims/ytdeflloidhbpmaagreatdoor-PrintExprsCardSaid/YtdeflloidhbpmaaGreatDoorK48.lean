/-
  Numbers' digits; what is printed hangs on nothing of where things stand.
  How long a program's lists are: no longer than there are tokens.
  What print.Print asks of its world, of a program that was parsed.
  How much a program has: no more expressions and statements than there are tokens.
-/
import Derived.Test.YtdeflloidhbpmaaGreatDoorK47
import Derived.Lib.ItoaNum
import Derived.Test.YtdeflloidhbpmaaGreatDoorK27
import Derived.Test.YtdeflloidhbpmaaGreatDoorK45
import Derived.Test.YtdeflloidhbpmaaGreatDoorK46
import Derived.Test.YtdeflloidhbpmaaGreatDoorK23
import Derived.Lib.SmallJoins
namespace Go.Proofs.YtdeflloidhbpmaaGreatDoor

theorem digit_of {u : Nat} (h : u < 10) : (UInt8.ofNat (48 + u)).toNat = 48 + u := by
  show (48 + u) % 256 = 48 + u
  omega
theorem isDig_of {u : Nat} (h : u < 10) : isDig (UInt8.ofNat (48 + u)) = true := by
  have key : ∀ u : Fin 10, isDig (UInt8.ofNat (48 + u.1)) = true := by decide
  exact key ⟨u, h⟩
theorem dec_ne (n : Nat) : Lib.decDigits n ≠ [] := by
  rw [Lib.decDigits]
  by_cases h : n < 10
  · rw [dif_pos h]; simp
  · rw [dif_neg h]; simp
theorem dec_dig : ∀ n, ∀ c ∈ Lib.decDigits n, isDig c = true := by
  intro n
  induction n using Nat.strongRecOn with
  | ind n ih =>
    intro c hc
    rw [Lib.decDigits] at hc
    by_cases h : n < 10
    · rw [dif_pos h, List.mem_singleton] at hc
      rw [hc]; exact isDig_of h
    · rw [dif_neg h] at hc
      rcases List.mem_append.1 hc with hc | hc
      · exact ih (n / 10) (by omega) c hc
      · rw [List.mem_singleton] at hc
        rw [hc]; exact isDig_of (by omega)
theorem dec_len : ∀ k n, n < 10 ^ (k + 1) → (Lib.decDigits n).length ≤ k + 1 := by
  intro k
  induction k with
  | zero => intro n h; rw [Lib.decDigits, dif_pos (by omega)]; exact Nat.le_refl _
  | succ k ih =>
    intro n h
    rw [Lib.decDigits]
    by_cases h1 : n < 10
    · rw [dif_pos h1]; simp
    · rw [dif_neg h1, List.length_append, List.length_singleton]
      have := ih (n / 10) (by rw [Nat.pow_succ] at h; omega)
      omega
theorem dec_head : ∀ n, 0 < n → (Lib.decDigits n).head? ≠ some 48 := by
  intro n
  induction n using Nat.strongRecOn with
  | ind n ih =>
    intro hn
    rw [Lib.decDigits]
    by_cases h : n < 10
    · rw [dif_pos h]
      have key : ∀ u : Fin 10, 0 < u.1 → UInt8.ofNat (48 + u.1) ≠ 48 := by decide
      have := key ⟨n, h⟩ hn
      simpa using this
    · rw [dif_neg h]
      have h1 := ih (n / 10) (by omega) (by omega)
      have h2 := dec_ne (n / 10)
      cases hd : Lib.decDigits (n / 10) with
      | nil => exact absurd hd h2
      | cons c r => rw [hd] at h1; simpa using h1
theorem dec_num : ∀ n, numOf (Lib.decDigits n) = n := by
  intro n
  induction n using Nat.strongRecOn with
  | ind n ih =>
    rw [Lib.decDigits]
    by_cases h : n < 10
    · rw [dif_pos h]
      show 0 * 10 + ((UInt8.ofNat (48 + n)).toNat - 48) = n
      rw [digit_of h]; omega
    · rw [dif_neg h]
      have h1 := ih (n / 10) (by omega)
      unfold numOf at h1 ⊢
      rw [List.foldl_append, h1]
      show n / 10 * 10 + ((UInt8.ofNat (48 + n % 10)).toNat - 48) = n
      rw [digit_of (by omega)]; omega
theorem dec_ok : DecOk Lib.decDigits := fun n hn => ⟨⟨dec_ne n, dec_dig n, dec_len 17 n hn, fun hl => dec_head n (by
  rcases Nat.eq_zero_or_pos n with rfl | h
  · rw [Lib.decDigits, dif_pos (by decide)] at hl; simp at hl
  · exact h)⟩, dec_num n⟩

/-! ### where things stand -/
variable {dec : Nat → List UInt8}
theorem prP_bare {E : List Ex} {g h : Nat → List Wd} (hg : ∀ a, g a = h a) (n a : Nat) : prP (E.map bare) g n a = prP E h n a := by
  unfold prP
  rw [List.getElem?_map]
  cases E[a]? with
  | none => exact hg a
  | some x =>
    show (if lvE x < n then (4, [40]) :: (g a ++ [(4, [41])]) else g a) = _
    rw [hg]
theorem comma_ext {g h : Nat → List Wd} (hg : ∀ a, g a = h a) (l : List Nat) : commaG g l = commaG h l := by
  rw [show g = h from funext hg]
theorem prG_bare (E : List Ex) : ∀ n i, prG dec (E.map bare) n i = prG dec E n i
  | 0, _ => rfl
  | n + 1, i => by
    have ih := prG_bare E n
    unfold prG
    rw [List.getElem?_map]
    cases E[i]? with
    | none => rfl
    | some x =>
      dsimp only [Option.map_some, bare]
      rw [show prP (E.map bare) (prG dec (E.map bare) n) = prP E (prG dec E n) from funext fun m => funext fun a => prP_bare ih m a, show prG dec (E.map bare) n = prG dec E n from funext ih]
theorem oneIf_bare (S : List Sm) (l : List Nat) : oneIf (S.map bareS) l = oneIf S l := by
  unfold oneIf
  match l with
  | [] => rfl
  | [j] =>
    dsimp only
    rw [List.getElem?_map]
    cases S[j]? with
    | none => rfl
    | some x => rfl
  | _ :: _ :: _ => rfl
theorem stG_bare (E : List Ex) (S : List Sm) : ∀ n b i, stG dec (E.map bare) (S.map bareS) n b i = stG dec E S n b i
  | 0, _, _ => rfl
  | n + 1, b, i => by
    have ih := stG_bare E S n
    have ie := prG_bare (dec := dec) E
    unfold stG
    rw [List.getElem?_map]
    cases S[i]? with
    | none => rfl
    | some x =>
      dsimp only [Option.map_some, bareS]
      have h1 : ∀ b, stG dec (E.map bare) (S.map bareS) n b = stG dec E S n b := fun b => funext (ih b)
      have h2 : ∀ g1 g b l, elG (S.map bareS) g1 g b l = elG S g1 g b l := fun g1 g b l => by unfold elG; rw [oneIf_bare]
      simp only [h1, h2, ie, List.length_map]
theorem fnG_bare (E : List Ex) (S : List Sm) (f : Fu) : fnG dec (E.map bare) (S.map bareS) (bareF f) = fnG dec E S f := by
  unfold fnG bareF
  have h1 : ∀ b, stG dec (E.map bare) (S.map bareS) S.length b = stG dec E S S.length b := fun b => funext (stG_bare E S S.length b)
  rw [List.length_map, h1]
theorem progG_bare {s s' : Sg} (h1 : s'.ex.map bare = s.ex.map bare) (h2 : s'.st.map bareS = s.st.map bareS) (h3 : s'.fn.map bareF = s.fn.map bareF) : progG dec s' = progG dec s := by
  have key : ∀ (E : List Ex) (S : List Sm) (F : List Fu), F.flatMap (fnG dec E S) = (F.map bareF).flatMap (fnG dec (E.map bare) (S.map bareS)) := by
    intro E S F
    induction F with
    | nil => rfl
    | cons f r ih => rw [List.map_cons, List.flatMap_cons, List.flatMap_cons, fnG_bare, ih]
  unfold progG
  rw [key s'.ex s'.st s'.fn, key s.ex s.st s.fn, h1, h2, h3]
/-- Printed, it is parsed as it was; printed again it is the same. -/
theorem print_back {t : List UInt8} (ht : t.length ≤ 900) {s : Sg} (h : parseT t = .good s) :
    ∃ s', parseT (byt (progG Lib.decDigits s)) = .good s' ∧ s'.ex.map bare = s.ex.map bare ∧ s'.st.map bareS = s.st.map bareS ∧ s'.fn.map bareF = s.fn.map bareF ∧ progG Lib.decDigits s' = progG Lib.decDigits s := by
  obtain ⟨s', e1, e2, e3, e4⟩ := reparse dec_ok ht h
  exact ⟨s', e1, e2, e3, e4, progG_bare e2 e3 e4⟩
end Go.Proofs.YtdeflloidhbpmaaGreatDoor

namespace Go.Proofs.YtdeflloidhbpmaaGreatDoor

/-- All lists have so many things at most. -/
structure LenOk (N : Nat) (s : Sg) : Prop where
  ex : ∀ x ∈ s.ex, x.list.length ≤ N
  st : ∀ x ∈ s.st, x.thn.length ≤ N ∧ x.els.length ≤ N
  fn : ∀ x ∈ s.fn, x.params.length ≤ N ∧ x.body.length ≤ N
/-- A part that leaves it so. -/
def Lk (N : Nat) {α : Type} (Q : α → Prop) (x : Ps α) : Prop := ∀ s a s1, LenOk N s → x s = .ok a s1 → LenOk N s1 ∧ Q a
section
variable {T : List Tk} {N : Nat}
theorem lk_bd {α β : Type} {Q : α → Prop} {R : β → Prop} {x : Ps α} {f : α → Ps β} (hx : Lk N Q x) (hf : ∀ a, Q a → Lk N R (f a)) : Lk N R (bd x f) := by
  intro s b s2 h0 h
  obtain ⟨a, s1, h1, h2⟩ := bd_inv h
  obtain ⟨e1, e2⟩ := hx s a s1 h0 h1
  exact hf a e2 s1 b s2 e1 h2
theorem lk_ok {α : Type} {Q : α → Prop} {a : α} (h : Q a) : Lk N Q (okP a) := by
  intro s b s1 h0 h1
  injection h1 with e1 e2
  subst e1 e2
  exact ⟨h0, h⟩
theorem lk_no {α : Type} {Q : α → Prop} {c i : Sg → Nat} : Lk N Q (fun s => .no (c s) (i s) : Ps α) := fun s a s1 _ h => by cases h
theorem lk_if {α : Type} {Q : α → Prop} {b : Sg → Bool} {x y : Ps α} (hx : Lk N Q x) (hy : Lk N Q y) : Lk N Q (fun s => if b s then x s else y s) := by
  intro s a s1 h0 h
  by_cases hb : b s = true
  · exact hx s a s1 h0 (by simpa [hb] using h)
  · exact hy s a s1 h0 (by simpa [hb] using h)
theorem lk_at {α : Type} {Q : α → Prop} {x : Sg → Ps α} (h : ∀ s0, Lk N Q (x s0)) : Lk N Q (fun s => x s s) := fun s a s1 h0 h1 => h s s a s1 h0 h1
theorem Lk.mono {α : Type} {Q R : α → Prop} {x : Ps α} (h : Lk N Q x) (hQ : ∀ a, Q a → R a) : Lk N R x := fun s a s1 h0 h1 => ⟨(h s a s1 h0 h1).1, hQ a (h s a s1 h0 h1).2⟩
def Any {α : Type} (_ : α) : Prop := True
theorem lk_next : Lk N Any (nextP T) := by
  intro s a s1 h0 h
  unfold nextP at h
  by_cases hm : 1000 < s.st.length
  · rw [if_pos hm] at h; cases h
  · rw [if_neg hm] at h
    injection h with h1 h2
    subst h2
    exact ⟨⟨h0.ex, h0.st, h0.fn⟩, True.intro⟩
theorem lk_takeP (l : List (List UInt8)) : Lk N Any (takeP T l) := lk_if lk_next (lk_no (c := fun _ => 3) (i := fun s => s.at_))
theorem lk_takeK (k : Nat) : Lk N Any (takeK T k) := lk_if lk_next (lk_no (c := fun _ => 3) (i := fun s => s.at_))
theorem lk_putE (lo : Nat) {x : Ex} (hx : x.list.length ≤ N) : Lk N Any (putE T lo x) := by
  intro s a s1 h0 h
  unfold putE at h
  injection h with h1 h2
  subst h2
  refine ⟨⟨fun y hy => ?_, h0.st, h0.fn⟩, True.intro⟩
  rcases List.mem_append.1 hy with hy | hy
  · exact h0.ex y hy
  · rw [List.mem_singleton] at hy; subst hy; exact hx
theorem lk_putS (lo : Nat) {x : Sm} (hx : x.thn.length ≤ N ∧ x.els.length ≤ N) : Lk N Any (putS T lo x) := by
  intro s a s1 h0 h
  unfold putS at h
  injection h with h1 h2
  subst h2
  refine ⟨⟨h0.ex, fun y hy => ?_, h0.fn⟩, True.intro⟩
  rcases List.mem_append.1 hy with hy | hy
  · exact h0.st y hy
  · rw [List.mem_singleton] at hy; subst hy; exact hx
theorem lk_putF (lo : Nat) {x : Fu} (hx : x.params.length ≤ N ∧ x.body.length ≤ N) : Lk N Any (putF T lo x) := by
  intro s a s1 h0 h
  unfold putF at h
  injection h with h1 h2
  subst h2
  refine ⟨⟨h0.ex, h0.st, fun y hy => ?_⟩, True.intro⟩
  rcases List.mem_append.1 hy with hy | hy
  · exact h0.fn y hy
  · rw [List.mem_singleton] at hy; subst hy; exact hx
/-- A list has no more things than fuel. -/
theorem lk_listL {α : Type} {one : Ps α} (h1 : Lk N Any one) : ∀ k (out : List α), Lk N (fun l => l.length ≤ out.length + k) (listL T one k out)
  | 0, _ => lk_no (c := fun _ => 0) (i := fun _ => 0)
  | k + 1, out => by
    refine lk_if (x := Rs.ok out) (lk_ok (by omega)) ?_
    refine lk_bd (Q := Any) (by by_cases h : out.length = 0 <;> simp only [h, if_true, if_false] <;> first | exact lk_ok True.intro | exact lk_takeP _) fun _ _ => lk_bd h1 fun x _ => (lk_listL h1 k (out ++ [x])).mono fun l hl => ?_
    rw [List.length_append] at hl
    simp at hl
    omega
theorem lk_list {α : Type} {one : Ps α} (h1 : Lk N Any one) (hN : T.length + 1 ≤ N) : Lk N (fun l => l.length ≤ N) (listM T one) :=
  lk_bd (lk_takeP _) fun _ _ => lk_bd (lk_listL h1 _ []) fun l hl => lk_bd (lk_takeP _) fun _ _ => lk_ok (by simp at hl; omega)
theorem lk_pair {part : Ps Nat} (h : Lk N Any part) (lo a : Nat) : Lk N Any (pairM T part lo a) := lk_bd lk_next fun _ _ => lk_bd h fun _ _ => lk_putE _ (Nat.zero_le _)
theorem lk_rowL {part : Ps Nat} (h : Lk N Any part) (signs : List (List UInt8)) (lo : Nat) : ∀ k a, Lk N Any (rowL T part signs lo k a)
  | 0, _ => lk_no (c := fun _ => 0) (i := fun _ => 0)
  | k + 1, a => lk_if (x := bd (pairM T part lo a) (rowL T part signs lo k)) (y := Rs.ok a) (lk_bd (lk_pair h lo a) fun b _ => lk_rowL h signs lo k b) (lk_ok True.intro)
theorem lk_row {part : Ps Nat} (h : Lk N Any part) (signs : List (List UInt8)) : Lk N Any (rowM T part signs) := lk_at (x := fun s => bd part (rowL T part signs (cur T s).lo (T.length + 1))) fun _ => lk_bd h fun a _ => lk_rowL h signs _ _ a
theorem lk_comparison {op : Ps Nat} (h : Lk N Any op) : Lk N Any (comparisonM T op) :=
  lk_at (x := fun s => bd (sumM T op) (fun a s1 => if isP T sgCmp s1 then pairM T (sumM T op) (cur T s).lo a s1 else .ok a s1)) fun s =>
    lk_bd (lk_row (lk_row h _) _) fun a _ => lk_if (x := pairM T (sumM T op) (cur T s).lo a) (y := Rs.ok a) (lk_pair (lk_row (lk_row h _) _) _ _) (lk_ok True.intro)
theorem lk_expression {op : Ps Nat} (h : Lk N Any op) : Lk N Any (expressionM T op) := lk_row (lk_row (lk_comparison h) _) _
theorem lk_number : Lk N Any (numberM T) := lk_bd (lk_takeK _) fun _ _ => lk_ok True.intro
theorem lk_index {e : Ps Nat} (h : Lk N Any e) : Lk N Any (indexM T e) := lk_bd (lk_takeP _) fun _ _ => lk_bd h fun _ _ => lk_bd (lk_takeP _) fun _ _ => lk_ok True.intro
theorem lk_call (hN : T.length + 1 ≤ N) {sub : Ps Nat} (h : Lk N Any sub) (lo : Nat) (name : List UInt8) : Lk N Any (callM T sub lo name) := lk_bd (lk_list (lk_expression h) hN) fun _ hl => lk_putE _ hl
theorem lk_reference (hN : T.length + 1 ≤ N) {sub : Ps Nat} (h : Lk N Any sub) : Lk N Any (referenceM T sub) :=
  lk_at (x := fun s => bd (takeK T 1) (fun name s1 =>
  if isP T [[40]] s1 then callM T sub (cur T s).lo name s1
  else if isP T [[91]] s1 then bd (indexM T (expressionM T sub)) (fun a => putE T (cur T s).lo { kind := 5, name := name, a := a }) s1
  else putE T (cur T s).lo { kind := 4, name := name } s1)) fun s => lk_bd (lk_takeK _) fun name _ =>
    lk_if (x := callM T sub (cur T s).lo name) (lk_call hN h _ _) (lk_if (x := bd (indexM T (expressionM T sub)) (fun a => putE T (cur T s).lo { kind := 5, name := name, a := a })) (lk_bd (lk_index (lk_expression h)) fun _ _ => lk_putE _ (Nat.zero_le _)) (lk_putE _ (Nat.zero_le _)))
theorem lk_word : Lk N Any (wordM T) := lk_at (x := fun s => bd (takeP T [kTrue, kFalse, kRead]) (fun x => putE T (cur T s).lo { kind := if x = kTrue then 2 else if x = kFalse then 3 else 7 })) fun _ => lk_bd (lk_takeP _) fun _ _ => lk_putE _ (Nat.zero_le _)
theorem lk_operandS (hN : T.length + 1 ≤ N) {sub : Ps Nat} (h : Lk N Any sub) : Lk N Any (operandS T sub) :=
  lk_at (x := fun s0 s =>
  if isP T [[45], [33]] s then bd (nextP T) (fun o => bd sub fun a => putE T (cur T s0).lo { kind := 8, op := o, a := a }) s
  else if isP T [[40]] s then bd (takeP T [[40]]) (fun _ => bd (expressionM T sub) fun a => bd (takeP T [[41]]) fun _ => okP a) s
  else if isK T 1 s then referenceM T sub s
  else if isK T 2 s then bd (numberM T) (fun n => putE T (cur T s0).lo { kind := 1, num := n }) s
  else wordM T s) fun s0 =>
    lk_if (x := bd (nextP T) (fun o => bd sub fun a => putE T (cur T s0).lo { kind := 8, op := o, a := a })) (lk_bd lk_next fun _ _ => lk_bd h fun _ _ => lk_putE _ (Nat.zero_le _))
      (lk_if (x := bd (takeP T [[40]]) (fun _ => bd (expressionM T sub) fun a => bd (takeP T [[41]]) fun _ => okP a)) (lk_bd (lk_takeP _) fun _ _ => lk_bd (lk_expression h) fun _ _ => lk_bd (lk_takeP _) fun _ _ => lk_ok True.intro)
        (lk_if (x := referenceM T sub) (lk_reference hN h) (lk_if (x := bd (numberM T) (fun n => putE T (cur T s0).lo { kind := 1, num := n })) (lk_bd lk_number fun _ _ => lk_putE _ (Nat.zero_le _)) lk_word)))
theorem lk_operand (hN : T.length + 1 ≤ N) : ∀ k, Lk N Any (operandM T k)
  | 0 => lk_no (c := fun _ => 4) (i := fun s => s.at_)
  | k + 1 => lk_operandS hN (lk_operand hN k)
theorem lk_blockL {one : Ps Nat} (h1 : Lk N Any one) : ∀ k (out : List Nat), Lk N (fun l => l.length ≤ out.length + k) (blockL T one k out)
  | 0, _ => lk_no (c := fun _ => 0) (i := fun _ => 0)
  | k + 1, out => by
    refine lk_if (x := Rs.ok out) (lk_ok (by omega)) (lk_bd h1 fun x _ => (lk_blockL h1 k (out ++ [x])).mono fun l hl => ?_)
    rw [List.length_append] at hl
    simp at hl
    omega
theorem lk_blkOf {one : Ps Nat} (h1 : Lk N Any one) (hN : T.length + 1 ≤ N) (k : Nat) : Lk N (fun l => l.length ≤ N) (blkOf T k one) := by
  unfold blkOf
  by_cases h : k = 0
  · rw [if_pos h]; exact lk_no (c := fun _ => 4) (i := fun s => s.at_)
  · rw [if_neg h]; exact lk_bd (lk_takeP _) fun _ _ => lk_bd (lk_blockL h1 _ []) fun l hl => lk_bd (lk_takeP _) fun _ _ => lk_ok (by simp at hl; omega)
def SmL (N : Nat) (x : Sm) : Prop := x.thn.length ≤ N ∧ x.els.length ≤ N
theorem lk_otherwise {blk : Ps (List Nat)} {stm : Ps Nat} (hN : 1 ≤ N) (hb : Lk N (fun l => l.length ≤ N) blk) (hs : Lk N Any stm) : Lk N (fun l => l.length ≤ N) (otherwiseM T blk stm) :=
  lk_if (x := bd stm (fun i => okP [i])) (lk_bd hs fun _ _ => lk_ok hN) hb
theorem lk_choice {ex : Ps Nat} {blk : Ps (List Nat)} {stm : Ps Nat} (hN : 1 ≤ N) (he : Lk N Any ex) (hb : Lk N (fun l => l.length ≤ N) blk) (hs : Lk N Any stm) : Lk N (SmL N) (choiceM T ex blk stm) :=
  lk_bd (lk_takeP _) fun _ _ => lk_bd he fun a _ => lk_bd hb fun l hl =>
    lk_if (α := Sm) (Q := SmL N) (x := bd (takeP T [kElse]) (fun _ => bd (otherwiseM T blk stm) fun m => okP { kind := 5, a := a, thn := l, els := m })) (y := Rs.ok { kind := 5, a := a, thn := l }) (lk_bd (lk_takeP _) fun _ _ => lk_bd (lk_otherwise hN hb hs) fun _ hm => lk_ok ⟨hl, hm⟩) (lk_ok ⟨hl, Nat.zero_le _⟩)
theorem lk_loop {ex : Ps Nat} {blk : Ps (List Nat)} (he : Lk N Any ex) (hb : Lk N (fun l => l.length ≤ N) blk) : Lk N (SmL N) (loopM T ex blk) :=
  lk_bd (lk_takeP _) fun _ _ => lk_bd he fun _ _ => lk_bd hb fun _ hl => lk_ok ⟨hl, Nat.zero_le _⟩
theorem lk_named (hN : T.length + 1 ≤ N) {ex sub : Ps Nat} (he : Lk N Any ex) (hs : Lk N Any sub) : Lk N (SmL N) (namedM T ex sub) :=
  lk_at (α := Sm) (Q := SmL N) (x := fun s => bd (takeK T 1) (fun name s1 =>
  if isP T [[40]] s1 then bd (callM T sub (cur T s).lo name) (fun a => okP { kind := 11, a := a }) s1
  else if isP T [[91]] s1 then bd (indexM T ex) (fun a => bd (takeP T [[61]]) fun _ => bd ex fun b => okP { kind := 4, name := name, a := a, b := b }) s1
  else bd (takeP T [[61]]) (fun _ => bd ex fun a => okP { kind := 3, name := name, a := a }) s1)) fun s => lk_bd (lk_takeK _) fun name _ =>
    lk_if (α := Sm) (Q := SmL N) (x := bd (callM T sub (cur T s).lo name) (fun a => okP { kind := 11, a := a })) (lk_bd (lk_call hN hs _ _) fun _ _ => lk_ok ⟨Nat.zero_le _, Nat.zero_le _⟩)
      (lk_if (α := Sm) (Q := SmL N) (x := bd (indexM T ex) (fun a => bd (takeP T [[61]]) fun _ => bd ex fun b => okP { kind := 4, name := name, a := a, b := b })) (lk_bd (lk_index he) fun _ _ => lk_bd (lk_takeP _) fun _ _ => lk_bd he fun _ _ => lk_ok ⟨Nat.zero_le _, Nat.zero_le _⟩)
        (lk_bd (lk_takeP _) fun _ _ => lk_bd he fun _ _ => lk_ok ⟨Nat.zero_le _, Nat.zero_le _⟩))
theorem lk_variable {ex : Ps Nat} (he : Lk N Any ex) : Lk N (SmL N) (variableM T ex) :=
  lk_bd (lk_takeP _) fun _ _ => lk_bd (lk_takeK _) fun _ _ => lk_bd (lk_takeP _) fun x _ => by
    by_cases h : x = [61]
    · rw [if_pos h]; exact lk_bd he fun _ _ => lk_ok ⟨Nat.zero_le _, Nat.zero_le _⟩
    · rw [if_neg h]; exact lk_bd lk_number fun _ _ => lk_bd (lk_takeP _) fun _ _ => lk_ok ⟨Nat.zero_le _, Nat.zero_le _⟩
theorem lk_answer {ex : Ps Nat} (he : Lk N Any ex) : Lk N (SmL N) (answerM T ex) :=
  lk_bd (lk_takeP _) fun _ _ => lk_if (α := Sm) (Q := SmL N) (x := Rs.ok { kind := 9, a := -1 }) (lk_ok ⟨Nat.zero_le _, Nat.zero_le _⟩) (lk_bd he fun _ _ => lk_ok ⟨Nat.zero_le _, Nat.zero_le _⟩)
theorem lk_simple (hN : T.length + 1 ≤ N) {ex sub : Ps Nat} (he : Lk N Any ex) (hs : Lk N Any sub) : Lk N (SmL N) (simpleM T ex sub) :=
  lk_if (α := Sm) (Q := SmL N) (x := namedM T ex sub) (lk_named hN he hs) (lk_if (α := Sm) (Q := SmL N) (x := variableM T ex) (lk_variable he) (lk_if (α := Sm) (Q := SmL N) (x := answerM T ex) (lk_answer he)
    (lk_if (α := Sm) (Q := SmL N) (x := bd (takeP T [kPrint]) (fun _ => bd ex fun a => okP { kind := 10, a := a })) (lk_bd (lk_takeP _) fun _ _ => lk_bd he fun _ _ => lk_ok ⟨Nat.zero_le _, Nat.zero_le _⟩) (lk_bd (lk_takeP _) fun _ _ => lk_ok ⟨Nat.zero_le _, Nat.zero_le _⟩))))
theorem lk_fields (hN : T.length + 1 ≤ N) {ex sub : Ps Nat} {blk : Ps (List Nat)} {stm : Ps Nat} (he : Lk N Any ex) (hu : Lk N Any sub) (hb : Lk N (fun l => l.length ≤ N) blk) (hs : Lk N Any stm) : Lk N (SmL N) (fieldsM T ex sub blk stm) :=
  lk_if (x := choiceM T ex blk stm) (lk_choice (by omega) he hb hs) (lk_if (x := loopM T ex blk) (lk_loop he hb) (lk_bd (lk_simple hN he hu) fun _ hx => lk_bd (lk_takeP _) fun _ _ => lk_ok hx))
theorem lk_stmtS (hN : T.length + 1 ≤ N) {ex sub : Ps Nat} {blk : Ps (List Nat)} {stm : Ps Nat} (he : Lk N Any ex) (hu : Lk N Any sub) (hb : Lk N (fun l => l.length ≤ N) blk) (hs : Lk N Any stm) : Lk N Any (stmtS T ex sub blk stm) :=
  lk_at (x := fun s => bd (fieldsM T ex sub blk stm) (putS T (cur T s).lo)) fun _ => lk_bd (lk_fields hN he hu hb hs) fun _ hx => lk_putS _ hx
theorem lk_stmt (hN : T.length + 1 ≤ N) : ∀ k, Lk N Any (stmtM T k)
  | 0 => lk_no (c := fun _ => 4) (i := fun s => s.at_)
  | k + 1 => lk_stmtS hN (lk_expression (lk_operand hN (k + 1))) (lk_operand hN k) (lk_blkOf (lk_stmt hN k) hN k) (lk_stmt hN k)
theorem lk_function (hN : T.length + 1 ≤ N) : Lk N Any (functionM T) :=
  lk_at (x := fun s0 s =>
  if isP T [kFunc] s && s.fn.length == 32 then .no 5 s.at_
  else bd (takeP T [kFunc]) (fun _ => bd (takeK T 1) fun name => bd (listM T (takeK T 1)) fun ps => bd (fun s1 => if isP T [kInt] s1 then bd (takeP T [kInt]) (fun _ => okP 1) s1 else .ok 4 s1) fun ty => bd (blockM T 64) fun body => putF T (cur T s0).lo { name := name, params := ps, ty := ty, body := body }) s) fun _ =>
    lk_if (b := fun s => isP T [kFunc] s && s.fn.length == 32) (lk_no (c := fun _ => 5) (i := fun s => s.at_))
      (lk_bd (lk_takeP _) fun _ _ => lk_bd (lk_takeK _) fun _ _ => lk_bd (lk_list (lk_takeK _) hN) fun _ hp => lk_bd (Q := Any) (lk_if (x := bd (takeP T [kInt]) (fun _ => okP 1)) (y := Rs.ok 4) (lk_bd (lk_takeP _) fun _ _ => lk_ok True.intro) (lk_ok True.intro)) fun _ _ => lk_bd (lk_blkOf (lk_stmt hN 64) hN 64) fun _ hb => lk_putF _ ⟨hp, hb⟩)
theorem lk_programL (hN : T.length + 1 ≤ N) : ∀ k, Lk N Any (programL T k)
  | 0 => lk_no (c := fun _ => 0) (i := fun _ => 0)
  | k + 1 => lk_if (x := Rs.ok ()) (lk_ok True.intro) (lk_bd (lk_function hN) fun _ _ => lk_programL hN k)
end
theorem parse_len {t : List UInt8} {s : Sg} (h : parseT t = .good s) : LenOk (t.length + 2) s := by
  unfold parseT at h
  cases hp : (toks t 0).2 with
  | some p => rw [hp] at h; cases h
  | none =>
    rw [hp] at h
    dsimp only at h
    have hl : (tksL t).length + 1 ≤ t.length + 2 := by
      have := toks_len' t
      unfold tksL
      simp; omega
    cases hr : programM (tksL t) start with
    | no c i => rw [hr] at h; cases h
    | ok u s' =>
      rw [hr] at h
      injection h with h1
      subst h1
      unfold programM at hr
      exact (lk_bd (lk_function hl) (fun _ _ => lk_programL hl _) start u s' ⟨fun x h => by simp [start] at h, fun x h => by simp [start] at h, fun x h => by simp [start] at h⟩ hr).1
end Go.Proofs.YtdeflloidhbpmaaGreatDoor

namespace Go.Proofs.YtdeflloidhbpmaaGreatDoor
open Go.RowKit
section
variable {nm : List UInt8 → Prop} {nu : Nat → Prop} {E : List Ex} {S : List Sm}
/-- A number's number is one of these. -/
def NumOk (nu : Nat → Prop) (E : List Ex) (j : Nat) : Prop := ∃ x, E[j]? = some x ∧ (x.kind = 1 → nu x.num)
theorem kind_of {x y : Ex} (h : bare x = y) : x.kind = y.kind := by rw [← h]; rfl
theorem Sh.all {k f i : Nat} (h : Sh nm nu E k f i) : ∀ j, f ≤ j → j ≤ i → NumOk nu E j := by
  induction h with
  | @num k i x h1 h2 h3 => intro j a b; obtain rfl : j = i := by omega
                           exact ⟨x, h1, fun _ => h2⟩
  | @word k i x h1 h2 h3 => intro j a b; obtain rfl : j = i := by omega
                            exact ⟨x, h1, fun e => by rcases h2 with h | h | h <;> omega⟩
  | @name k i x h1 h2 h3 => intro j a b; obtain rfl : j = i := by omega
                            exact ⟨x, h1, fun e => by have := kind_of h3; rw [e] at this; cases this⟩
  | @idx k f i x h1 h2 h3 h4 _ ih =>
    intro j a b
    by_cases hj : j = i
    · subst hj; exact ⟨x, h1, fun e => by have := kind_of h3; rw [e] at this; cases this⟩
    · exact ih j a (by omega)
  | @call k f i x h1 h2 h3 h4 _ ih =>
    intro j a b
    by_cases hj : j = i
    · subst hj; exact ⟨x, h1, fun e => by have := kind_of h3; rw [e] at this; cases this⟩
    · have key : ∀ n, n ≤ x.list.length → j < stt f x.list n → NumOk nu E j := by
        intro n
        induction n with
        | zero => intro _ h; simp only [stt] at h; omega
        | succ n ihn =>
          intro hn h
          by_cases hlt : j < stt f x.list n
          · exact ihn (by omega) hlt
          · have e1 : stt f x.list (n + 1) = x.list.getD n 0 + 1 := rfl
            have e2 : x.list.getD n 0 = x.list[n] := by rw [List.getD_eq_getElem?_getD, List.getElem?_eq_getElem (by omega)]; rfl
            exact ih n (by omega) j (by omega) (by omega)
      exact key _ (Nat.le_refl _) (by omega)
  | @un k k' f i x h1 h2 h3 h4 h5 _ ih =>
    intro j a b
    by_cases hj : j = i
    · subst hj; exact ⟨x, h1, fun e => by have := kind_of h3; rw [e] at this; cases this⟩
    · exact ih j a (by omega)
  | @pair k k1 k2 f i x h1 h2 h3 h4 h5 _ h7 _ ih1 ih2 =>
    intro j a b
    by_cases hj : j = i
    · subst hj; exact ⟨x, h1, fun e => by have := kind_of h3; rw [e] at this; cases this⟩
    · by_cases ha : j ≤ x.a
      · exact ih1 j a ha
      · exact ih2 j (by omega) (by omega)
theorem BL.all {P : Nat → Nat → Nat → Nat → Prop} {Q : Nat → Prop} (hP : ∀ m0 q0 i m1, P m0 q0 i m1 → ∀ j, m0 ≤ j → j < m1 → Q j) : ∀ {l : List Nat} {m0 q0 m1 q1 : Nat}, BL P l m0 q0 m1 q1 → ∀ j, m0 ≤ j → j < m1 → Q j
  | [], _, _, _, _, ⟨h1, _⟩, j, a, b => by omega
  | _ :: _, _, _, _, _, ⟨m, h1, h2⟩, j, a, b => by
    by_cases hj : j < m
    · exact hP _ _ _ _ h1 j a hj
    · exact BL.all hP h2 j (by omega) b
theorem SB.all {P : Nat → Nat → Nat → Nat → Prop} (hP : ∀ m0 q0 i m1, P m0 q0 i m1 → ∀ j, m0 ≤ j → j < m1 → NumOk nu E j) {k : Nat} {x : Sm} {m0 q0 i m1 : Nat} (h : SB nm nu E P k x m0 q0 i m1) : ∀ j, m0 ≤ j → j < m1 → NumOk nu E j := by
  intro j a b
  cases h with
  | var a' _ _ h3 h4 _ => exact h3.all j a (by omega)
  | arr _ _ _ h4 _ => omega
  | set a' _ _ h3 h4 _ => exact h3.all j a (by omega)
  | put a' _ _ h3 h3' h4 _ =>
    by_cases ha : j ≤ a'
    · exact h3.all j a ha
    · exact h3'.all j (by omega) (by omega)
  | cond a' m q _ h3 _ h5 h6 =>
    by_cases ha : j ≤ a'
    · exact h3.all j a ha
    · by_cases hm : j < m
      · exact h5.all hP j (by omega) hm
      · exact h6.all hP j (by omega) b
  | loop a' _ h3 _ h5 =>
    by_cases ha : j ≤ a'
    · exact h3.all j a ha
    · exact h5.all hP j (by omega) b
  | jump _ _ h4 _ => omega
  | ret0 _ h4 _ => omega
  | ret a' _ h3 h4 _ => exact h3.all j a (by omega)
  | print a' _ h3 h4 _ => exact h3.all j a (by omega)
  | call a' _ h3 _ h4 _ => exact h3.all j a (by omega)
theorem SSh.all : ∀ n m0 q0 i m1, SSh nm nu E S n m0 q0 i m1 → ∀ j, m0 ≤ j → j < m1 → NumOk nu E j
  | 0, _, _, _, _, h => h.elim
  | n + 1, _, _, _, _, ⟨_, _, h⟩ => h.all (SSh.all n)
theorem FL.all {P : Fu → Nat → Nat → Nat → Nat → Prop} {Q : Nat → Prop} (hP : ∀ f m0 q0 m1 q1, P f m0 q0 m1 q1 → ∀ j, m0 ≤ j → j < m1 → Q j) : ∀ {l : List Fu} {m0 q0 m1 q1 : Nat}, FL P l m0 q0 m1 q1 → ∀ j, m0 ≤ j → j < m1 → Q j
  | [], _, _, _, _, ⟨h1, _⟩, j, a, b => by omega
  | _ :: _, _, _, _, _, ⟨m, q, h1, h2⟩, j, a, b => by
    by_cases hj : j < m
    · exact hP _ _ _ _ _ h1 j a hj
    · exact FL.all hP h2 j (by omega) b
end
theorem parse_nums {t : List UInt8} {s : Sg} (h : parseT t = .good s) : ∀ x ∈ s.ex, x.kind = 1 → nuD x.num := by
  intro x hx
  obtain ⟨j, hj, e⟩ := List.mem_iff_getElem.1 hx
  obtain ⟨y, h1, h2⟩ := (parse_shape h).all (fun f m0 q0 m1 q1 hf => hf.body.all (SSh.all 64)) j (Nat.zero_le _) hj
  rw [List.getElem?_eq_getElem hj, e] at h1
  obtain rfl := Option.some.inj h1
  exact h2
/-- Names are no longer than the text. -/
theorem nms_len (t : List UInt8) : Nms (fun b => GN b ∧ b.length ≤ t.length) nuD (tksL t) := by
  have h0 := nms_tks t
  refine ⟨fun s h => ⟨h0.1 s h, ?_⟩, h0.2⟩
  rcases cur_tks t s with e | ⟨j, e⟩
  · rw [e] at h; cases h
  · rw [e]
    show (bytesOf t (nextT t j)).length ≤ t.length
    rw [bytes_next, List.length_take, List.length_drop]
    omega
theorem parse_shapeL {t : List UInt8} {s : Sg} (h : parseT t = .good s) : FL (FSh (fun b => GN b ∧ b.length ≤ t.length) nuD s.ex s.st) s.fn 0 0 s.ex.length s.st.length := program_snd (nms_len t) (parse_ok h).2
/-- How long what is printed may be. -/
theorem parse_out {t : List UInt8} (ht : t.length ≤ 900) {s : Sg} (h : parseT t = .good s) (hex : s.ex.length ≤ 2000) : (byt (progG Lib.decDigits s)).length ≤ 1000000000 := by
  obtain ⟨hf, hst⟩ := parse_few t ht h
  have h3 := (progG_len (dec := Lib.decDigits) (L := 900) (K := 902) (fun b hb => by have := hb.2; omega) (fun n hn => dec_len 17 n hn) s.fn 0 0 _ _ (fun f hf => by have := ((parse_len h).fn f hf).1; omega) (Nat.le_refl _) (parse_shapeL h)).2.2
  have e : progG Lib.decDigits s = s.fn.flatMap (fnG Lib.decDigits s.ex s.st) := rfl
  rw [e]
  refine Nat.le_trans h3 ?_
  have a1 : 6 * (900 + 20) * (s.ex.length - 0) ≤ 6 * (900 + 20) * 2000 := Nat.mul_le_mul_left _ (by omega)
  have a2 : (900 + 1000) * (s.st.length - 0) ≤ (900 + 1000) * 900 := Nat.mul_le_mul_left _ (by omega)
  have a3 : ((900 + 2) * 902 + 900 + 200) * s.fn.length ≤ ((900 + 2) * 902 + 900 + 200) * 32 := Nat.mul_le_mul_left _ (by omega)
  omega
theorem itoa_nat (n : Nat) : Lib.itoa (n : Int) = Lib.decDigits n := by unfold Lib.itoa; rw [if_neg (by omega)]; simp
theorem itoa_in {w : World} (htab : Lib.TabIs Tryz.prog w nameP .u64 Lib.pow10Tab) (n : Nat) (hn : nuD n) : Calls Tryz.prog 86 #[.int .i64 (n : Int)] w fun e w' => e = .returned (.string (bs (Lib.decDigits n))) ∧ Below w.heap.size w w' := by
  have h9 : (10 : Nat) ^ 18 = 1000000000000000000 := by decide
  unfold nuD at hn
  refine (Any.strconv_Itoa Tryz.itoaL (n : Int) (by omega) (by omega) w htab).mono ?_
  rintro e w' ⟨rfl, k, os, rfl⟩
  rw [itoa_nat]
  exact ⟨rfl, rfl, rfl, rfl, by show w.heap.size ≤ (w.heap ++ os).size; rw [Array.size_append]; omega, fun j hj => by show (w.heap ++ os)[j]? = _; rw [Array.getElem?_append_left hj]⟩
/-- print.Print of a program that was parsed. -/
theorem print_calls {w : World} {g c : Nat → Nat} (hL : Levs g c w) (htab : Lib.TabIs Tryz.prog w nameP .u64 Lib.pow10Tab) {t : List UInt8} (ht : t.length ≤ 20000) {s : Sg} (hp : parseT t = .good s) (hls : ∀ x ∈ s.ex, x.list.length ≤ 10000)
    (hex : s.ex.length ≤ 2000) (hst : s.st.length ≤ 100000) (hfn : s.fn.length ≤ 100000) (hlen : (byt (progG Lib.decDigits s)).length ≤ 1000000000) {L : Nat → Prop} {v : Value} (hv : TrIn L w v s) :
    Calls Tryz.prog 11 #[v] w (PrP (byt (progG Lib.decDigits s)) w) := by
  obtain ⟨A1, c1, A2, c2, A3, c3, rfl⟩ := hv.form
  have hl := parse_len hp
  exact wprint_calls (nm := fun b => GN b ∧ b.length ≤ t.length) (nu := nuD) (g := g) (cl := c)
    { lev := hL
      lo := ⟨cell_lt (hL.cell 0 (by omega)), fun i hi => (hL.rows i hi).2.1⟩
      tree := TrB.of hv
      ito := fun n hn w1 h1 => itoa_in (Joins.tab_stays Tryz.gPows htab h1 (Nat.le_refl _)) n hn
      num := parse_nums hp
      lens := hls
      nms := fun b hb => by have := hb.2; omega
      few := hex
      dl := fun n hn => by have := dec_len 17 n hn; omega
      st := hst
      fn := ⟨parseT_good hp, hfn⟩
      sh := parse_shapeL hp
      pars := fun y hy => by have := (hl.fn y hy).1; omega
      len := hlen }
end Go.Proofs.YtdeflloidhbpmaaGreatDoor

namespace Go.Proofs.YtdeflloidhbpmaaGreatDoor

/-- One takes so many tokens more, but c, than it puts. -/
def Ct (d c : Nat) {α : Type} (x : Ps α) : Prop := ∀ s a s1, x s = .ok a s1 → s1.ex.length + s1.st.length + s.at_ + d ≤ s1.at_ + s.ex.length + s.st.length + c
section
variable {T : List Tk}
theorem ct_bd {α β : Type} {d c e f : Nat} {x : Ps α} {g : α → Ps β} (hx : Ct d c x) (hg : ∀ a, Ct e f (g a)) : Ct (d + e) (c + f) (bd x g) := by
  intro s b s2 h
  obtain ⟨a, s1, h1, h2⟩ := bd_inv h
  have h3 := hx s a s1 h1
  have h4 := hg a s1 b s2 h2
  omega
theorem Ct.mono {α : Type} {d c e f : Nat} {x : Ps α} (h : Ct d c x) (hd : e + c ≤ d + f) : Ct e f x := by
  intro s a s1 h1
  have := h s a s1 h1
  omega
theorem ct_ok {α : Type} {a : α} : Ct 0 0 (okP a) := by
  intro s b s1 h
  injection h with e1 e2
  subst e2
  omega
theorem ct_no {α : Type} {d e : Nat} {c i : Sg → Nat} : Ct d e (fun s => .no (c s) (i s) : Ps α) := fun s a s1 h => by cases h
theorem ct_if {α : Type} {d c : Nat} {b : Sg → Bool} {x y : Ps α} (hx : Ct d c x) (hy : Ct d c y) : Ct d c (fun s => if b s then x s else y s) := by
  intro s a s1 h
  by_cases hb : b s = true
  · exact hx s a s1 (by simpa [hb] using h)
  · exact hy s a s1 (by simpa [hb] using h)
theorem ct_at {α : Type} {d c : Nat} {x : Sg → Ps α} (h : ∀ s0, Ct d c (x s0)) : Ct d c (fun s => x s s) := fun s a s1 h1 => h s s a s1 h1
theorem ct_next : Ct 1 0 (nextP T) := by
  intro s a s1 h
  unfold nextP at h
  by_cases hm : 1000 < s.st.length
  · rw [if_pos hm] at h; cases h
  · rw [if_neg hm] at h
    injection h with h1 h2
    subst h2
    dsimp only
    omega
theorem ct_takeP (l : List (List UInt8)) : Ct 1 0 (takeP T l) := ct_if ct_next (ct_no (c := fun _ => 3) (i := fun s => s.at_))
theorem ct_takeK (k : Nat) : Ct 1 0 (takeK T k) := ct_if ct_next (ct_no (c := fun _ => 3) (i := fun s => s.at_))
theorem ct_putE (lo : Nat) (x : Ex) : Ct 0 1 (putE T lo x) := by
  intro s a s1 h
  unfold putE at h
  injection h with h1 h2
  subst h2
  simp only [List.length_append, List.length_singleton]
  omega
theorem ct_putS (lo : Nat) (x : Sm) : Ct 0 1 (putS T lo x) := by
  intro s a s1 h
  unfold putS at h
  injection h with h1 h2
  subst h2
  simp only [List.length_append, List.length_singleton]
  omega
theorem ct_putF (lo : Nat) (x : Fu) : Ct 0 0 (putF T lo x) := by
  intro s a s1 h
  unfold putF at h
  injection h with h1 h2
  subst h2
  dsimp only
  omega
theorem ct_listL {α : Type} {one : Ps α} (h1 : Ct 0 0 one) : ∀ k (out : List α), Ct 0 0 (listL T one k out)
  | 0, _ => ct_no (c := fun _ => 0) (i := fun _ => 0)
  | k + 1, out => by
    refine ct_if (x := Rs.ok out) ct_ok ?_
    exact ct_bd (d := 0) (c := 0) (e := 0) (f := 0) (by by_cases h : out.length = 0 <;> simp only [h, if_true, if_false] <;> first | exact ct_ok | exact (ct_takeP _).mono (by omega)) fun _ => ct_bd (d := 0) (c := 0) (e := 0) (f := 0) h1 fun x => ct_listL h1 k (out ++ [x])
theorem ct_list {α : Type} {one : Ps α} (h1 : Ct 0 0 one) : Ct 2 0 (listM T one) :=
  ct_bd (d := 1) (c := 0) (e := 1) (f := 0) (ct_takeP _) fun _ => ct_bd (d := 0) (c := 0) (e := 1) (f := 0) (ct_listL h1 _ []) fun _ => ct_bd (d := 1) (c := 0) (e := 0) (f := 0) (ct_takeP _) fun _ => ct_ok
theorem ct_pair {part : Ps Nat} (h : Ct 0 0 part) (lo a : Nat) : Ct 0 0 (pairM T part lo a) := (ct_bd ct_next fun _ => ct_bd h fun _ => ct_putE _ _).mono (by omega)
theorem ct_rowL {part : Ps Nat} (h : Ct 0 0 part) (signs : List (List UInt8)) (lo : Nat) : ∀ k a, Ct 0 0 (rowL T part signs lo k a)
  | 0, _ => ct_no (c := fun _ => 0) (i := fun _ => 0)
  | k + 1, a => ct_if (x := bd (pairM T part lo a) (rowL T part signs lo k)) (y := Rs.ok a) (ct_bd (d := 0) (c := 0) (e := 0) (f := 0) (ct_pair h lo a) fun b => ct_rowL h signs lo k b) ct_ok
theorem ct_row {part : Ps Nat} (h : Ct 0 0 part) (signs : List (List UInt8)) : Ct 0 0 (rowM T part signs) := ct_at (x := fun s => bd part (rowL T part signs (cur T s).lo (T.length + 1))) fun _ => ct_bd (d := 0) (c := 0) (e := 0) (f := 0) h fun a => ct_rowL h signs _ _ a
theorem ct_comparison {op : Ps Nat} (h : Ct 0 0 op) : Ct 0 0 (comparisonM T op) :=
  ct_at (x := fun s => bd (sumM T op) (fun a s1 => if isP T sgCmp s1 then pairM T (sumM T op) (cur T s).lo a s1 else .ok a s1)) fun s =>
    ct_bd (d := 0) (c := 0) (e := 0) (f := 0) (ct_row (ct_row h _) _) fun a => ct_if (x := pairM T (sumM T op) (cur T s).lo a) (y := Rs.ok a) (ct_pair (ct_row (ct_row h _) _) _ _) ct_ok
theorem ct_expression {op : Ps Nat} (h : Ct 0 0 op) : Ct 0 0 (expressionM T op) := ct_row (ct_row (ct_comparison h) _) _
theorem ct_number : Ct 1 0 (numberM T) := ct_bd (d := 1) (c := 0) (e := 0) (f := 0) (ct_takeK _) fun _ => ct_ok
theorem ct_index {e : Ps Nat} (h : Ct 0 0 e) : Ct 2 0 (indexM T e) := (ct_bd (ct_takeP _) fun _ => ct_bd h fun _ => ct_bd (ct_takeP _) fun _ => ct_ok).mono (by omega)
theorem ct_call {sub : Ps Nat} (h : Ct 0 0 sub) (lo : Nat) (name : List UInt8) : Ct 1 0 (callM T sub lo name) := (ct_bd (ct_list (ct_expression h)) fun _ => ct_putE _ _).mono (by omega)
theorem ct_reference {sub : Ps Nat} (h : Ct 0 0 sub) : Ct 0 0 (referenceM T sub) :=
  ct_at (x := fun s => bd (takeK T 1) (fun name s1 =>
  if isP T [[40]] s1 then callM T sub (cur T s).lo name s1
  else if isP T [[91]] s1 then bd (indexM T (expressionM T sub)) (fun a => putE T (cur T s).lo { kind := 5, name := name, a := a }) s1
  else putE T (cur T s).lo { kind := 4, name := name } s1)) fun s => (ct_bd (e := 0) (f := 1) (ct_takeK _) fun name =>
    ct_if (x := callM T sub (cur T s).lo name) ((ct_call h _ _).mono (by omega)) (ct_if (x := bd (indexM T (expressionM T sub)) (fun a => putE T (cur T s).lo { kind := 5, name := name, a := a })) ((ct_bd (ct_index (ct_expression h)) fun _ => ct_putE _ _).mono (by omega)) (ct_putE _ _))).mono (by omega)
theorem ct_word : Ct 0 0 (wordM T) := ct_at (x := fun s => bd (takeP T [kTrue, kFalse, kRead]) (fun x => putE T (cur T s).lo { kind := if x = kTrue then 2 else if x = kFalse then 3 else 7 })) fun _ => (ct_bd (ct_takeP _) fun _ => ct_putE _ _).mono (by omega)
theorem ct_operandS {sub : Ps Nat} (h : Ct 0 0 sub) : Ct 0 0 (operandS T sub) :=
  ct_at (x := fun s0 s =>
  if isP T [[45], [33]] s then bd (nextP T) (fun o => bd sub fun a => putE T (cur T s0).lo { kind := 8, op := o, a := a }) s
  else if isP T [[40]] s then bd (takeP T [[40]]) (fun _ => bd (expressionM T sub) fun a => bd (takeP T [[41]]) fun _ => okP a) s
  else if isK T 1 s then referenceM T sub s
  else if isK T 2 s then bd (numberM T) (fun n => putE T (cur T s0).lo { kind := 1, num := n }) s
  else wordM T s) fun s0 =>
    ct_if (x := bd (nextP T) (fun o => bd sub fun a => putE T (cur T s0).lo { kind := 8, op := o, a := a })) ((ct_bd ct_next fun _ => ct_bd h fun _ => ct_putE _ _).mono (by omega))
      (ct_if (x := bd (takeP T [[40]]) (fun _ => bd (expressionM T sub) fun a => bd (takeP T [[41]]) fun _ => okP a)) ((ct_bd (ct_takeP _) fun _ => ct_bd (ct_expression h) fun _ => ct_bd (ct_takeP _) fun _ => ct_ok).mono (by omega))
        (ct_if (x := referenceM T sub) (ct_reference h) (ct_if (x := bd (numberM T) (fun n => putE T (cur T s0).lo { kind := 1, num := n })) ((ct_bd ct_number fun _ => ct_putE _ _).mono (by omega)) ct_word)))
theorem ct_operand : ∀ k, Ct 0 0 (operandM T k)
  | 0 => ct_no (c := fun _ => 4) (i := fun s => s.at_)
  | k + 1 => ct_operandS (ct_operand k)
theorem ct_blockL {one : Ps Nat} (h1 : Ct 0 0 one) : ∀ k (out : List Nat), Ct 0 0 (blockL T one k out)
  | 0, _ => ct_no (c := fun _ => 0) (i := fun _ => 0)
  | k + 1, out => ct_if (x := Rs.ok out) ct_ok (ct_bd (d := 0) (c := 0) (e := 0) (f := 0) h1 fun x => ct_blockL h1 k (out ++ [x]))
theorem ct_blkOf {one : Ps Nat} (h1 : Ct 0 0 one) (k : Nat) : Ct 2 0 (blkOf T k one) := by
  unfold blkOf
  by_cases h : k = 0
  · rw [if_pos h]; exact ct_no (c := fun _ => 4) (i := fun s => s.at_)
  · rw [if_neg h]; exact (ct_bd (ct_takeP _) fun _ => ct_bd (ct_blockL h1 _ []) fun _ => ct_bd (ct_takeP _) fun _ => ct_ok).mono (by omega)
theorem ct_otherwise {blk : Ps (List Nat)} {stm : Ps Nat} (hb : Ct 2 0 blk) (hs : Ct 0 0 stm) : Ct 0 0 (otherwiseM T blk stm) :=
  ct_if (x := bd stm (fun i => okP [i])) (ct_bd (d := 0) (c := 0) (e := 0) (f := 0) hs fun _ => ct_ok) (hb.mono (by omega))
theorem ct_choice {ex : Ps Nat} {blk : Ps (List Nat)} {stm : Ps Nat} (he : Ct 0 0 ex) (hb : Ct 2 0 blk) (hs : Ct 0 0 stm) : Ct 1 0 (choiceM T ex blk stm) :=
  (ct_bd (d := 1) (c := 0) (e := 2) (f := 0) (ct_takeP _) fun _ => ct_bd (d := 0) (c := 0) (e := 2) (f := 0) he fun a => ct_bd (d := 2) (c := 0) (e := 0) (f := 0) hb fun l =>
    ct_if (α := Sm) (x := bd (takeP T [kElse]) (fun _ => bd (otherwiseM T blk stm) fun m => okP { kind := 5, a := a, thn := l, els := m })) (y := Rs.ok { kind := 5, a := a, thn := l }) ((ct_bd (ct_takeP _) fun _ => ct_bd (ct_otherwise hb hs) fun _ => ct_ok).mono (by omega)) ct_ok).mono (by omega)
theorem ct_loop {ex : Ps Nat} {blk : Ps (List Nat)} (he : Ct 0 0 ex) (hb : Ct 2 0 blk) : Ct 1 0 (loopM T ex blk) :=
  (ct_bd (ct_takeP _) fun _ => ct_bd he fun _ => ct_bd hb fun _ => ct_ok).mono (by omega)
theorem ct_named {ex sub : Ps Nat} (he : Ct 0 0 ex) (hs : Ct 0 0 sub) : Ct 1 0 (namedM T ex sub) :=
  ct_at (α := Sm) (x := fun s => bd (takeK T 1) (fun name s1 =>
  if isP T [[40]] s1 then bd (callM T sub (cur T s).lo name) (fun a => okP { kind := 11, a := a }) s1
  else if isP T [[91]] s1 then bd (indexM T ex) (fun a => bd (takeP T [[61]]) fun _ => bd ex fun b => okP { kind := 4, name := name, a := a, b := b }) s1
  else bd (takeP T [[61]]) (fun _ => bd ex fun a => okP { kind := 3, name := name, a := a }) s1)) fun s => ct_bd (d := 1) (c := 0) (e := 0) (f := 0) (ct_takeK _) fun name =>
    ct_if (α := Sm) (x := bd (callM T sub (cur T s).lo name) (fun a => okP { kind := 11, a := a })) ((ct_bd (ct_call hs _ _) fun _ => ct_ok).mono (by omega))
      (ct_if (α := Sm) (x := bd (indexM T ex) (fun a => bd (takeP T [[61]]) fun _ => bd ex fun b => okP { kind := 4, name := name, a := a, b := b })) ((ct_bd (ct_index he) fun _ => ct_bd (ct_takeP _) fun _ => ct_bd he fun _ => ct_ok).mono (by omega))
        ((ct_bd (ct_takeP _) fun _ => ct_bd he fun _ => ct_ok).mono (by omega)))
theorem ct_variable {ex : Ps Nat} (he : Ct 0 0 ex) : Ct 1 0 (variableM T ex) :=
  (ct_bd (d := 1) (c := 0) (e := 0) (f := 0) (ct_takeP _) fun _ => ct_bd (d := 0) (c := 0) (e := 0) (f := 0) ((ct_takeK _).mono (by omega)) fun _ => ct_bd (d := 0) (c := 0) (e := 0) (f := 0) ((ct_takeP _).mono (by omega)) fun x => by
    by_cases h : x = [61]
    · rw [if_pos h]; exact (ct_bd he fun _ => ct_ok).mono (by omega)
    · rw [if_neg h]; exact (ct_bd ct_number fun _ => ct_bd (ct_takeP _) fun _ => ct_ok).mono (by omega))
theorem ct_answer {ex : Ps Nat} (he : Ct 0 0 ex) : Ct 1 0 (answerM T ex) :=
  ct_bd (d := 1) (c := 0) (e := 0) (f := 0) (ct_takeP _) fun _ => ct_if (α := Sm) (x := Rs.ok { kind := 9, a := -1 }) ct_ok ((ct_bd he fun _ => ct_ok).mono (by omega))
theorem ct_simple {ex sub : Ps Nat} (he : Ct 0 0 ex) (hs : Ct 0 0 sub) : Ct 1 0 (simpleM T ex sub) :=
  ct_if (α := Sm) (x := namedM T ex sub) (ct_named he hs) (ct_if (α := Sm) (x := variableM T ex) (ct_variable he) (ct_if (α := Sm) (x := answerM T ex) (ct_answer he)
    (ct_if (α := Sm) (x := bd (takeP T [kPrint]) (fun _ => bd ex fun a => okP { kind := 10, a := a })) ((ct_bd (ct_takeP _) fun _ => ct_bd he fun _ => ct_ok).mono (by omega)) ((ct_bd (ct_takeP _) fun _ => ct_ok).mono (by omega)))))
theorem ct_fields {ex sub : Ps Nat} {blk : Ps (List Nat)} {stm : Ps Nat} (he : Ct 0 0 ex) (hu : Ct 0 0 sub) (hb : Ct 2 0 blk) (hs : Ct 0 0 stm) : Ct 1 0 (fieldsM T ex sub blk stm) :=
  ct_if (x := choiceM T ex blk stm) (ct_choice he hb hs) (ct_if (x := loopM T ex blk) (ct_loop he hb) ((ct_bd (ct_simple he hu) fun _ => ct_bd (ct_takeP _) fun _ => ct_ok).mono (by omega)))
theorem ct_stmtS {ex sub : Ps Nat} {blk : Ps (List Nat)} {stm : Ps Nat} (he : Ct 0 0 ex) (hu : Ct 0 0 sub) (hb : Ct 2 0 blk) (hs : Ct 0 0 stm) : Ct 0 0 (stmtS T ex sub blk stm) :=
  ct_at (x := fun s => bd (fieldsM T ex sub blk stm) (putS T (cur T s).lo)) fun _ => (ct_bd (ct_fields he hu hb hs) fun _ => ct_putS _ _).mono (by omega)
theorem ct_stmt : ∀ k, Ct 0 0 (stmtM T k)
  | 0 => ct_no (c := fun _ => 4) (i := fun s => s.at_)
  | k + 1 => ct_stmtS (ct_expression (ct_operand (k + 1))) (ct_operand k) (ct_blkOf (ct_stmt k) k) (ct_stmt k)
theorem ct_function : Ct 0 0 (functionM T) :=
  ct_at (x := fun s0 s =>
  if isP T [kFunc] s && s.fn.length == 32 then .no 5 s.at_
  else bd (takeP T [kFunc]) (fun _ => bd (takeK T 1) fun name => bd (listM T (takeK T 1)) fun ps => bd (fun s1 => if isP T [kInt] s1 then bd (takeP T [kInt]) (fun _ => okP 1) s1 else .ok 4 s1) fun ty => bd (blockM T 64) fun body => putF T (cur T s0).lo { name := name, params := ps, ty := ty, body := body }) s) fun _ =>
    ct_if (b := fun s => isP T [kFunc] s && s.fn.length == 32) (ct_no (c := fun _ => 5) (i := fun s => s.at_))
      (ct_bd (d := 0) (c := 0) (e := 0) (f := 0) ((ct_takeP _).mono (by omega)) fun _ => ct_bd (d := 0) (c := 0) (e := 0) (f := 0) ((ct_takeK _).mono (by omega)) fun _ => ct_bd (d := 0) (c := 0) (e := 0) (f := 0) ((ct_list ((ct_takeK _).mono (by omega))).mono (by omega)) fun _ => ct_bd (d := 0) (c := 0) (e := 0) (f := 0) (ct_if (x := bd (takeP T [kInt]) (fun _ => okP 1)) (y := Rs.ok 4) ((ct_bd (ct_takeP _) fun _ => ct_ok).mono (by omega)) ct_ok) fun _ => ct_bd (d := 0) (c := 0) (e := 0) (f := 0) ((ct_blkOf (ct_stmt 64) 64).mono (by omega)) fun _ => ct_putF _ _)
theorem ct_programL : ∀ k, Ct 0 0 (programL T k)
  | 0 => ct_no (c := fun _ => 0) (i := fun _ => 0)
  | k + 1 => ct_if (x := Rs.ok ()) ct_ok (ct_bd (d := 0) (c := 0) (e := 0) (f := 0) ct_function fun _ => ct_programL k)
end
theorem parse_cnt {t : List UInt8} {s : Sg} (h : parseT t = .good s) : s.ex.length + s.st.length ≤ t.length := by
  unfold parseT at h
  cases hp : (toks t 0).2 with
  | some p => rw [hp] at h; cases h
  | none =>
    rw [hp] at h
    dsimp only at h
    have hl : (tksL t).length ≤ t.length + 1 := by
      have := toks_len' t
      unfold tksL
      simp; omega
    have hf := fine_program (tksL_ok t hp) start (tksL_ok t hp).pos
    cases hr : programM (tksL t) start with
    | no c i => rw [hr] at h; cases h
    | ok u s' =>
      rw [hr] at h hf
      injection h with h1
      subst h1
      unfold programM at hr
      have h2 := (ct_bd (ct_function (T := tksL t)) fun _ => ct_programL _) start u s' hr
      obtain ⟨_, h3⟩ := hf
      have e0 : start.ex.length = 0 := rfl
      have e1 : start.st.length = 0 := rfl
      have e2 : start.at_ = 0 := rfl
      omega
end Go.Proofs.YtdeflloidhbpmaaGreatDoor
