/-
  Lines and their parts: the library's Cut and Split at one byte.
-/
import Derived.Test.YtbhlockoeiedcaaDoorCpM
import Derived.Lib.Split
import Derived.Lib.IndexBytes
import Derived.Lib.IndexLaws
import Derived.Lib.CountLaws
import Derived.Shelf.Strings.Split
namespace Go.Proofs.YtbhlockoeiedcaaDoor
open Go.Lib

theorem cutL_eq (t : List UInt8) : Lib.cut t [10] = cutL t := by
  have key : ∀ t : List UInt8, (indexByte t 10 = -1 → cutL t = (t, [], false)) ∧ (∀ i : Nat, indexByte t 10 = (i : Int) → cutL t = (t.take i, t.drop (i + 1), true)) := by
    intro t
    induction t with
    | nil => exact ⟨fun _ => rfl, fun i h => by simp [indexByte] at h⟩
    | cons b r ih =>
      have hg := indexByte_ge r 10
      by_cases hb : b = 10
      · refine ⟨fun h => ?_, fun i h => ?_⟩
        · simp [indexByte, hb] at h
        · simp [indexByte, hb] at h
          obtain rfl : i = 0 := by omega
          simp [cutL, hb]
      · refine ⟨fun h => ?_, fun i h => ?_⟩
        · simp only [indexByte, beq_iff_eq, if_neg hb] at h
          split at h
          · rename_i h1
            simp [cutL, hb, ih.1 h1]
          · rename_i h1; omega
        · simp only [indexByte, beq_iff_eq, if_neg hb] at h
          split at h
          · omega
          · rename_i h1
            obtain ⟨j, rfl⟩ : ∃ j, i = j + 1 := ⟨i - 1, by omega⟩
            have := ih.2 j (by omega)
            simp [cutL, hb, this]
  unfold Lib.cut
  rw [index_one]
  by_cases h : 0 ≤ indexByte t 10
  · rw [if_pos h]
    have := (key t).2 (indexByte t 10).toNat (by omega)
    rw [this]; rfl
  · rw [if_neg h]
    have := (key t).1 (by have := indexByte_ge t 10; omega)
    rw [this]
theorem splitL_ne (t : List UInt8) : splitL t ≠ [] := by
  cases t with
  | nil => simp [splitL]
  | cons c r => unfold splitL; split <;> (try split) <;> simp
theorem splitL_at (t : List UInt8) : (indexByte t 32 = -1 → splitL t = [t]) ∧ (∀ i : Nat, indexByte t 32 = (i : Int) → splitL t = t.take i :: splitL (t.drop (i + 1))) := by
  induction t with
  | nil => exact ⟨fun _ => rfl, fun i h => by simp [indexByte] at h⟩
  | cons b r ih =>
    have hg := indexByte_ge r 32
    by_cases hb : b = 32
    · refine ⟨fun h => ?_, fun i h => ?_⟩
      · simp [indexByte, hb] at h
      · simp [indexByte, hb] at h
        obtain rfl : i = 0 := by omega
        simp [splitL, hb]
    · refine ⟨fun h => ?_, fun i h => ?_⟩
      · simp only [indexByte, beq_iff_eq, if_neg hb] at h
        split at h
        · rename_i h1
          simp [splitL, hb, ih.1 h1]
        · rename_i h1; omega
      · simp only [indexByte, beq_iff_eq, if_neg hb] at h
        split at h
        · omega
        · rename_i h1
          obtain ⟨j, rfl⟩ : ∃ j, i = j + 1 := ⟨i - 1, by omega⟩
          have := ih.2 j (by omega)
          simp [splitL, hb, this]
theorem splitK_eq : ∀ (n : Nat) (t : List UInt8), t.length = n → splitK [32] 0 (Lib.count t [32]) t = splitL t := by
  intro n
  induction n using Nat.strongRecOn with
  | _ n ih =>
    intro t ht
    have hc : Lib.count t [32] = if index t [32] == -1 then 0 else 1 + Lib.countFrom [32] t.length (t.drop ((index t [32]).toNat + 1)) := rfl
    rw [index_one] at hc
    by_cases h : indexByte t 32 = -1
    · rw [hc, h, (splitL_at t).1 h]
      rfl
    · have hg := indexByte_ge t 32
      obtain ⟨i, hi⟩ : ∃ i : Nat, indexByte t 32 = (i : Int) := ⟨(indexByte t 32).toNat, by omega⟩
      have hlt : i < t.length := by
        have := (indexByte_some hi).1
        exact (List.getElem?_eq_some_iff.1 this).1
      have e1 : Lib.count t [32] = Lib.count (t.drop (i + 1)) [32] + 1 := by
        rw [hc, hi]
        rw [if_neg (by simp)]
        have : Lib.countFrom [32] t.length (t.drop (i + 1)) = Lib.count (t.drop (i + 1)) [32] := by
          unfold Lib.count
          exact countFrom_fuel (by simp) _ _ (by rw [List.length_drop]; omega) _ (by omega)
        rw [Int.toNat_natCast, this]; omega
      rw [e1, (splitL_at t).2 i hi]
      simp only [splitK]
      rw [index_one, hi, if_neg (by simp), Int.toNat_natCast]
      rw [Nat.add_zero]
      have := ih (t.drop (i + 1)).length (by rw [List.length_drop]; omega) (t.drop (i + 1)) rfl
      show _ :: splitK [32] 0 _ (List.drop (i + 1) t) = _
      rw [this]
theorem splitL_len (t : List UInt8) : (splitL t).length = Lib.count t [32] + 1 := by
  have key : ∀ n (t : List UInt8), t.length = n → (splitL t).length = Lib.count t [32] + 1 := by
    intro n
    induction n using Nat.strongRecOn with
    | _ n ih =>
      intro t ht
      have hc : Lib.count t [32] = if index t [32] == -1 then 0 else 1 + Lib.countFrom [32] t.length (t.drop ((index t [32]).toNat + 1)) := rfl
      rw [index_one] at hc
      by_cases h : indexByte t 32 = -1
      · rw [hc, h, (splitL_at t).1 h]
        rfl
      · have hg := indexByte_ge t 32
        obtain ⟨i, hi⟩ : ∃ i : Nat, indexByte t 32 = (i : Int) := ⟨(indexByte t 32).toNat, by omega⟩
        have hlt : i < t.length := by
          have := (indexByte_some hi).1
          exact (List.getElem?_eq_some_iff.1 this).1
        have e1 : Lib.count t [32] = Lib.count (t.drop (i + 1)) [32] + 1 := by
          rw [hc, hi]
          rw [if_neg (by simp)]
          have : Lib.countFrom [32] t.length (t.drop (i + 1)) = Lib.count (t.drop (i + 1)) [32] := by
            unfold Lib.count
            exact countFrom_fuel (by simp) _ _ (by rw [List.length_drop]; omega) _ (by omega)
          rw [Int.toNat_natCast, this]; omega
        rw [e1, (splitL_at t).2 i hi, List.length_cons, ih (t.drop (i + 1)).length (by rw [List.length_drop]; omega) (t.drop (i + 1)) rfl]
  exact key _ t rfl
theorem splitL_part (t : List UInt8) : ∀ x ∈ splitL t, x.length ≤ t.length := by
  induction t with
  | nil => simp [splitL]
  | cons c r ih =>
    intro x hx
    unfold splitL at hx
    split at hx
    · rcases List.mem_cons.1 hx with rfl | hx
      · simp
      · have := ih x hx; simp; omega
    · split at hx
      · simp at hx; subst hx; simp
      · rename_i h tl he
        rw [he] at ih
        rcases List.mem_cons.1 hx with rfl | hx
        · have := ih h (by simp); simp; omega
        · have := ih x (by simp [hx]); simp; omega
theorem cutL_le (t : List UInt8) : (cutL t).1.length ≤ t.length ∧ (cutL t).2.1.length ≤ t.length := by
  induction t with
  | nil => simp [cutL]
  | cons c r ih =>
    unfold cutL
    split
    · simp
    · simp; omega

end Go.Proofs.YtbhlockoeiedcaaDoor
