/-
  What a shelf keeps, as a list of numbers: the one asked the longest time ago first.
-/
import Derived.Test.YthbhdmkbojjjkaaArPure
namespace Go.Proofs.Ythbhdmkbojjjkaa
open Go.RowKit

theorem roomS_le (n : Int) : 1 ≤ roomS n ∧ roomS n ≤ 1000 := by unfold roomS; omega
/-- The numbers of things. -/
def keys (xs : List It) : List Int := xs.map Prod.fst
theorem keys_len (xs : List It) : (keys xs).length = xs.length := by simp [keys]
theorem plc_mem (k : Int) (xs : List It) : plc k xs = -1 ↔ k ∉ keys xs := by
  induction xs with
  | nil => simp [plc, keys]
  | cons x r ih =>
    have h := plc_ge k r
    simp only [plc, keys, List.map_cons, List.mem_cons] at ih ⊢
    by_cases e : x.1 = k
    · rw [if_pos e]; simp [e]
    · rw [if_neg e]
      by_cases e1 : plc k r = -1
      · rw [if_pos e1]
        exact ⟨fun _ h2 => h2.elim (fun h3 => e h3.symm) (ih.1 e1), fun _ => rfl⟩
      · rw [if_neg e1]
        constructor
        · intro h2; omega
        · intro h2; exact absurd (ih.2 fun h3 => h2 (.inr h3)) e1
theorem map_eraseIdx {α β : Type} (f : α → β) : ∀ (l : List α) (i : Nat), (l.eraseIdx i).map f = (l.map f).eraseIdx i
  | [], _ => rfl
  | _ :: _, 0 => rfl
  | _ :: r, i + 1 => by simp [map_eraseIdx f r i]
theorem erase_filter : ∀ (ks : List Int) (k : Int) (i : Nat), ks.Nodup → ks[i]? = some k → ks.eraseIdx i = ks.filter (· ≠ k)
  | [], k, i, _, h => by simp at h
  | x :: r, k, 0, hn, h => by
    simp at h
    subst h
    have hx := (List.nodup_cons.1 hn).1
    simp only [List.eraseIdx_cons_zero, List.filter_cons]
    rw [if_neg (by simp)]
    refine (List.filter_eq_self.2 fun y hy => ?_).symm
    simp
    rintro rfl
    exact hx hy
  | x :: r, k, i + 1, hn, h => by
    have hx := List.nodup_cons.1 hn
    have hr : r[i]? = some k := by simpa using h
    have hk : x ≠ k := by
      rintro rfl
      exact hx.1 (List.mem_of_getElem? hr)
    simp only [List.eraseIdx_cons_succ, List.filter_cons]
    rw [if_pos (by simpa using hk), erase_filter r k i hx.2 hr]
theorem filter_none (ks : List Int) (k : Int) (h : k ∉ ks) : ks.filter (· ≠ k) = ks :=
  List.filter_eq_self.2 fun y hy => by simp; rintro rfl; exact h hy

/-- The numbers behind Ask. -/
def keyS (room : Int) (ks : List Int) (k : Int) : List Int :=
  (if 0 < (ks.filter (· ≠ k)).length ∧ room ≤ ((ks.filter (· ≠ k)).length : Int) then (ks.filter (· ≠ k)).drop 1 else ks.filter (· ≠ k)) ++ [k]
theorem keys_askS (room : Int) (xs : List It) (k x : Int) (hn : (keys xs).Nodup) : keys (askS room xs k x) = keyS room (keys xs) k := by
  have hl : keys (if plc k xs = -1 then xs else xs.eraseIdx (plc k xs).toNat) = (keys xs).filter (· ≠ k) := by
    rcases plc_cases k xs with h | ⟨i, hi, h, hk⟩
    · rw [if_pos h, filter_none _ _ ((plc_mem k xs).1 h)]
    · rw [if_neg (by omega), h]
      have : (keys xs)[i]? = some k := by simp [keys, hi, hk]
      rw [← erase_filter _ _ i hn this]
      simp [keys, map_eraseIdx]
  unfold askS putS keyS
  rw [← hl, keys_len]
  generalize (if plc k xs = -1 then xs else xs.eraseIdx (plc k xs).toNat) = ys
  split
  · simp [keys]
  · simp [keys]
theorem nodup_filter {ks : List Int} (h : ks.Nodup) (k : Int) : (ks.filter (· ≠ k)).Nodup := h.sublist List.filter_sublist
theorem keyS_nodup (room : Int) (ks : List Int) (k : Int) (h : ks.Nodup) : (keyS room ks k).Nodup := by
  have hf := nodup_filter h k
  have hm : k ∉ ks.filter (· ≠ k) := by simp
  unfold keyS
  split
  · refine List.nodup_append.2 ⟨hf.sublist (List.drop_sublist _ _), by simp, fun a ha b hb e => ?_⟩
    simp at hb
    subst e hb
    exact hm (List.mem_of_mem_drop ha)
  · refine List.nodup_append.2 ⟨hf, by simp, fun a ha b hb e => ?_⟩
    simp at hb
    subst e hb
    exact hm ha
theorem keyS_mem (room : Int) (ks : List Int) (k j : Int) (h : j ∈ keyS room ks k) : j = k ∨ j ∈ ks := by
  unfold keyS at h
  rcases List.mem_append.1 h with h | h
  · right
    split at h
    · exact (List.mem_filter.1 (List.mem_of_mem_drop h)).1
    · exact (List.mem_filter.1 h).1
  · simp at h; exact .inl h
theorem keyS_self (room : Int) (ks : List Int) (k : Int) : k ∈ keyS room ks k := by unfold keyS; simp
theorem filter_len_in (ks : List Int) (k : Int) (hn : ks.Nodup) (h : k ∈ ks) : (ks.filter (· ≠ k)).length = ks.length - 1 := by
  obtain ⟨i, hi, hk⟩ := List.getElem_of_mem h
  rw [← erase_filter ks k i hn (by rw [List.getElem?_eq_getElem hi, hk]), List.length_eraseIdx, if_pos hi]
theorem filter_len_le (ks : List Int) (k : Int) : (ks.filter (· ≠ k)).length ≤ ks.length := List.length_filter_le _ _
theorem keyS_len (room : Int) (ks : List Int) (k : Int) (h1 : 1 ≤ room) (hl : (ks.length : Int) ≤ room) : ((keyS room ks k).length : Int) ≤ room := by
  unfold keyS
  have := filter_len_le ks k
  split
  · rw [List.length_append, List.length_drop]; simp only [List.length_singleton]; omega
  · rw [List.length_append]; simp only [List.length_singleton]
    rename_i h2
    by_cases h3 : 0 < (ks.filter (· ≠ k)).length <;> omega
theorem keyS_len_le (room : Int) (ks : List Int) (k : Int) : (keyS room ks k).length ≤ ks.length + 1 := by
  unfold keyS
  have := filter_len_le ks k
  split
  · rw [List.length_append, List.length_drop]; simp only [List.length_singleton]; omega
  · rw [List.length_append]; simp only [List.length_singleton]; omega
/-- With room, none goes. -/
theorem keyS_big (room : Int) (ks : List Int) (k : Int) (hl : (ks.length : Int) < room) : keyS room ks k = ks.filter (· ≠ k) ++ [k] := by
  have := filter_len_le ks k
  unfold keyS
  rw [if_neg (by omega)]
theorem keyS_big_mem (room : Int) (ks : List Int) (k j : Int) (hl : (ks.length : Int) < room) : j ∈ keyS room ks k ↔ j = k ∨ j ∈ ks := by
  rw [keyS_big room ks k hl]
  by_cases e : j = k
  · simp [e]
  · simp [e]
theorem keyS_big_len (room : Int) (ks : List Int) (k : Int) (hn : ks.Nodup) (hl : (ks.length : Int) < room) : (keyS room ks k).length = if k ∈ ks then ks.length else ks.length + 1 := by
  rw [keyS_big room ks k hl, List.length_append]
  split
  · rename_i h
    have := List.length_pos_of_mem h
    rw [filter_len_in ks k hn h]; simp; omega
  · rename_i h
    rw [filter_none ks k h]; simp
/-- The list of the law: the last of those asked. -/
theorem keyS_law (n : Nat) (ks : List Int) (k : Int) (hn : ks.Nodup) (h1 : 1 ≤ n) (hl : ks.length ≤ n) :
    (ks.filter (· ≠ k) ++ [k]).drop ((ks.filter (· ≠ k) ++ [k]).length - n) = keyS n ks k := by
  have hf := filter_len_le ks k
  unfold keyS
  by_cases hk : k ∈ ks
  · have h2 := filter_len_in ks k hn hk
    have h3 := List.length_pos_of_mem hk
    rw [if_neg (by omega), List.length_append, h2, show ks.length - 1 + [k].length - n = 0 by simp; omega, List.drop_zero]
  · rw [filter_none ks k hk]
    by_cases h4 : ks.length = n
    · rw [if_pos (by omega), List.length_append, show ks.length + [k].length - n = 1 by simp; omega, List.drop_append_of_le_length (by omega)]
    · rw [if_neg (by omega), List.length_append, show ks.length + [k].length - n = 0 by simp; omega, List.drop_zero]
/-- A list of distinct ones that lies in another is no longer. -/
theorem len_le_of_sub : ∀ (l1 l2 : List Int), l1.Nodup → (∀ x ∈ l1, x ∈ l2) → l1.length ≤ l2.length
  | [], l2, _, _ => by simp
  | x :: r, l2, hn, h => by
    have hx := List.nodup_cons.1 hn
    have h1 := len_le_of_sub r (l2.erase x) hx.2 (fun y hy => (List.mem_erase_of_ne (by rintro rfl; exact hx.1 hy)).2 (h y (by simp [hy])))
    have h2 := List.length_erase_of_mem (h x (by simp))
    have h3 := List.length_pos_of_mem (h x (by simp))
    simp only [List.length_cons]
    omega
theorem askS_vals (room : Int) (xs : List It) (k : Int) (F : Int → Int) (h : ∀ p ∈ xs, p.2 = F p.1) : ∀ p ∈ askS room xs k (F k), p.2 = F p.1 := by
  intro p hp
  unfold askS at hp
  have hl : ∀ p ∈ (if plc k xs = -1 then xs else xs.eraseIdx (plc k xs).toNat), p.2 = F p.1 := by
    intro p hp
    split at hp
    · exact h p hp
    · exact h p ((List.eraseIdx_sublist _ _).subset hp)
  generalize (if plc k xs = -1 then xs else xs.eraseIdx (plc k xs).toNat) = ys at hp hl
  unfold putS at hp
  rcases List.mem_append.1 hp with hp | hp
  · split at hp
    · exact hl p ((List.eraseIdx_sublist _ _).subset hp)
    · exact hl p hp
  · simp at hp; subst hp; rfl
theorem has_key (k : Int) (xs : List It) : decide (0 ≤ plc k xs) = decide (k ∈ keys xs) := by
  have h := plc_ge k xs
  have h2 := plc_mem k xs
  by_cases e : k ∈ keys xs
  · rw [decide_eq_true e, decide_eq_true]
    have : plc k xs ≠ -1 := fun h3 => h2.1 h3 e
    omega
  · rw [decide_eq_false e, decide_eq_false]
    have := h2.2 e
    omega
theorem askF_key (f : Int) (xs : List It) (k : Int) : askF f xs k = if k ∈ keys xs then f else f + 1 := by
  unfold askF
  by_cases e : k ∈ keys xs
  · rw [if_pos e, if_neg fun h => (plc_mem k xs).1 h e]
  · rw [if_neg e, if_pos ((plc_mem k xs).2 e)]

end Go.Proofs.Ythbhdmkbojjjkaa
