/-
  Plain facts for the statement TokenJoins: how long the joined text is, and the text with a comment behind.
-/
import Derived.Test.YtgkgmlmipcnhbaaDoorSpansLaw
namespace Go.Proofs.YtgkgmlmipcnhbaaDoor
open Go.RowKit

theorem sJoin_len (ws : List (List UInt8)) : (sJoin ws).length ≤ (ws.map List.length).sum + ws.length := by
  have key : ∀ r : List (List UInt8), (r.flatMap fun v => 32 :: v).length = (r.map List.length).sum + r.length := by
    intro r
    induction r with
    | nil => rfl
    | cons v r ih => simp only [List.flatMap_cons, List.length_append, List.length_cons, ih, List.map_cons, List.sum_cons]; omega
  cases ws with
  | nil => simp [sJoin]
  | cons v r =>
    have := key r
    simp only [sJoin, List.length_append, List.map_cons, List.sum_cons, List.length_cons]
    omega
theorem sum_take_le (l : List Nat) (i : Nat) : (l.take i).sum ≤ l.sum := by
  induction l generalizing i with
  | nil => simp
  | cons x l ih =>
    cases i with
    | zero => simp
    | succ i => have := ih i; simp; omega
theorem bytes_sum (t : List UInt8) (xs : List Tok) : ((xs.map (bytesOf t)).map List.length).sum ≤ (xs.map fun x => x.hi - x.lo).sum := by
  induction xs with
  | nil => simp
  | cons x xs ih =>
    have : (bytesOf t x).length ≤ x.hi - x.lo := by unfold bytesOf; rw [List.length_take]; omega
    simp only [List.map_cons, List.sum_cons]
    omega
/-- The joined text, as far as it is made, is short. -/
theorem join_short (t : List UInt8) (xs : List Tok) (h : toks t 0 = (xs, none)) (hl : xs.length ≤ t.length + 1) (i : Nat) : (sJoin ((xs.map (bytesOf t)).take i)).length ≤ 2 * t.length + 1 := by
  have h1 := sJoin_len ((xs.map (bytesOf t)).take i)
  have h2 := sum_take_le ((xs.map (bytesOf t)).map List.length) i
  have h3 := bytes_sum t xs
  have h4 := toks_sum t t.length 0 (by omega) (Nat.zero_le _)
  rw [h] at h4
  rw [List.map_take] at h1
  have h5 : ((xs.map (bytesOf t)).take i).length ≤ xs.length := by rw [List.length_take, List.length_map]; omega
  dsimp only at h4
  omega
theorem join_step (ws : List (List UInt8)) (i : Nat) (h : i < ws.length) : sJoin (ws.take (i + 1)) = if i = 0 then ws[i] else sJoin (ws.take i) ++ 32 :: ws[i] := by
  rw [List.take_succ_eq_append_getElem h, sJoin_snoc, List.length_take, Nat.min_eq_left (by omega)]
theorem bsA (a b : ByteArray) : (a ++ b).data.toList = a.data.toList ++ b.data.toList := by simp
theorem bs_app (a b : List UInt8) : bs a ++ bs b = bs (a ++ b) := by
  apply bs_eq.2
  rw [bsA, bs_toList, bs_toList]
theorem tail_toks (a0 C : ByteArray) (hC : ∀ d ∈ C.data.toList, d ≠ 10) (xs : List Tok) (h : toks a0.data.toList 0 = (xs, none)) :
    toks ((a0 ++ ⟨#[10, 35]⟩) ++ C).data.toList 0 = (xs.map (endTo ((a0 ++ ⟨#[10, 35]⟩) ++ C).size), none) := by
  have e : ((a0 ++ ⟨#[10, 35]⟩) ++ C).data.toList = a0.data.toList ++ tailC C.data.toList := by
    rw [bsA, bsA, List.append_assoc]; rfl
  have := toks_tail a0.data.toList C.data.toList hC a0.data.toList.length 0 (by omega) (Nat.zero_le _) (by rw [h])
  rw [h] at this
  rw [← sizeL, e, this]
/-- The first line end of a text, or that there is none. -/
theorem first_nl (c : ByteArray) : (∃ p, ∃ h : p < c.size, c[p] = 10 ∧ ∀ j (hj : j < c.size), j < p → c[j] ≠ 10) ∨ (∀ j (hj : j < c.size), c[j] ≠ 10) := by
  have key : ∀ n, (∃ p, ∃ h : p < c.size, p < n ∧ c[p] = 10 ∧ ∀ j (hj : j < c.size), j < p → c[j] ≠ 10) ∨ (∀ j (hj : j < c.size), j < n → c[j] ≠ 10) := by
    intro n
    induction n with
    | zero => exact .inr (fun j _ h => absurd h (by omega))
    | succ n ih =>
      rcases ih with ⟨p, h, hp, h1, h2⟩ | h
      · exact .inl ⟨p, h, by omega, h1, h2⟩
      · by_cases hn : n < c.size
        · by_cases hc : c[n] = 10
          · exact .inl ⟨n, hn, by omega, hc, h⟩
          · refine .inr (fun j hj hjn => ?_)
            by_cases e : j = n
            · subst e; exact hc
            · exact h j hj (by omega)
        · exact .inr (fun j hj hjn => h j hj (by omega))
  rcases key c.size with ⟨p, h, _, h1, h2⟩ | h
  · exact .inl ⟨p, h, h1, h2⟩
  · exact .inr (fun j hj => h j hj hj)
theorem no_nl (c : ByteArray) (p : Nat) (hp : p ≤ c.size) (h : ∀ j (hj : j < c.size), j < p → c[j] ≠ 10) : ∀ d ∈ (c.extract 0 p).data.toList, d ≠ 10 := by
  intro d hd
  rw [extract_list, List.drop_zero, Nat.sub_zero] at hd
  obtain ⟨j, hj, rfl⟩ := List.mem_iff_getElem.1 hd
  rw [List.length_take, sizeL] at hj
  rw [List.getElem_take]
  exact h j (by omega) (by omega)

end Go.Proofs.YtgkgmlmipcnhbaaDoor
