/-
  Numbers as texts (layer 18).
-/
import Derived.Test.YtdknejmhlfpdfaaDoorTabs
import Derived.Lib.AtoiAll
import Derived.Lib.ItoaNum
import Derived.Lib.ItoaLen
import Derived.IntWalk
namespace Go.Proofs.YtdknejmhlfpdfaaDoor
open Go.RowKit

/-- Values that fit. -/
def i64 (n : Int) : Prop := -9223372036854775808 ≤ n ∧ n ≤ 9223372036854775807
/-- The int that a text tells, just as ints are told. -/
def numM (t : List UInt8) : Option Int := match Lib.atoiAll t with | .ok v => if Lib.itoa v = t then some v else none | _ => none
theorem atoi_i64 {t : List UInt8} {v : Int} (h : Lib.atoiAll t = .ok v) : i64 v := by
  cases t with
  | nil => cases h
  | cons c r =>
    simp only [Lib.atoiAll] at h
    split at h
    · cases h
    · cases h
    · rename_i u hu
      split at h
      · cases h
      · split at h
        · cases h
        · injection h with h
          subst h
          unfold i64
          split <;> omega
theorem decD_small {u : Nat} (h : u < 10) : Lib.decDigits u = [UInt8.ofNat (48 + u)] := by rw [Lib.decDigits, dif_pos h]
theorem decD_big {u : Nat} (h : ¬ u < 10) : Lib.decDigits u = Lib.decDigits (u / 10) ++ [UInt8.ofNat (48 + u % 10)] := by rw [Lib.decDigits, dif_neg h]
theorem dig_nat (d : Nat) (h : d < 10) : (UInt8.ofNat (48 + d)).toNat = 48 + d := by
  rw [UInt8.toNat_ofNat']; omega
theorem decD_dig (u : Nat) : ∀ c ∈ Lib.decDigits u, 48 ≤ c.toNat ∧ c.toNat ≤ 57 := by
  induction u using Nat.strongRecOn with
  | _ u ih =>
    by_cases h : u < 10
    · rw [decD_small h]; intro c hc; rw [List.mem_singleton.1 hc, dig_nat u h]; omega
    · rw [decD_big h]; intro c hc
      rcases List.mem_append.1 hc with hc | hc
      · exact ih (u / 10) (by omega) c hc
      · rw [List.mem_singleton.1 hc, dig_nat _ (Nat.mod_lt _ (by omega))]; omega
theorem decD_ne (u : Nat) : Lib.decDigits u ≠ [] := by
  by_cases h : u < 10
  · rw [decD_small h]; simp
  · rw [decD_big h]; simp
/-- What digits tell. -/
def valD (a : Nat) : List UInt8 → Nat
  | [] => a
  | c :: r => valD (a * 10 + (c.toNat - 48)) r
theorem valD_append (a : Nat) (l r : List UInt8) : valD a (l ++ r) = valD (valD a l) r := by
  induction l generalizing a with
  | nil => rfl
  | cons c l ih => exact ih _
theorem valD_ge (a : Nat) (l : List UInt8) : a ≤ valD a l := by
  induction l generalizing a with
  | nil => exact Nat.le_refl _
  | cons c l ih => exact Nat.le_trans (by omega) (ih _)
theorem valD_dec (u : Nat) : valD 0 (Lib.decDigits u) = u := by
  induction u using Nat.strongRecOn with
  | _ u ih =>
    by_cases h : u < 10
    · rw [decD_small h]; show 0 * 10 + ((UInt8.ofNat (48 + u)).toNat - 48) = u; rw [dig_nat u h]; omega
    · rw [decD_big h, valD_append, ih (u / 10) (by omega)]
      show u / 10 * 10 + ((UInt8.ofNat (48 + u % 10)).toNat - 48) = u
      rw [dig_nat _ (Nat.mod_lt _ (by omega))]; omega
theorem parse_val (l : List UInt8) : ∀ a, (∀ c ∈ l, 48 ≤ c.toNat ∧ c.toNat ≤ 57) → valD a l < 18446744073709551616 → Lib.parseUint10 a l = .ok (valD a l) := by
  induction l with
  | nil => intro a _ _; rfl
  | cons c l ih =>
    intro a hd hv
    have hc := hd c (List.mem_cons_self ..)
    have hg : a * 10 + (c.toNat - 48) ≤ valD a (c :: l) := valD_ge _ l
    unfold Lib.parseUint10
    rw [if_pos hc, if_neg (by omega), if_neg (by omega)]
    exact ih _ (fun x hx => hd x (List.mem_cons_of_mem _ hx)) hv
theorem parse_dec (u : Nat) (h : u < 18446744073709551616) : Lib.parseMag (Lib.decDigits u) = .ok u := by
  unfold Lib.parseMag
  rw [if_neg (decD_ne u), parse_val _ _ (decD_dig u) (by rw [valD_dec]; exact h), valD_dec]
theorem atoi_itoa (n : Int) (hn : i64 n) : Lib.atoiAll (Lib.itoa n) = .ok n := by
  unfold i64 at hn
  unfold Lib.itoa
  by_cases h : n < 0
  · rw [if_pos h]
    have e : (45 : UInt8).toNat = 45 := rfl
    simp only [Lib.atoiAll, e, or_true, if_true, true_and, not_true, false_and, if_false]
    rw [parse_dec n.natAbs (by omega)]
    dsimp only
    rw [if_neg (by omega)]
    congr 1
    omega
  · rw [if_neg h]
    have hd := decD_dig n.toNat
    have hp := parse_dec n.toNat (by omega)
    cases hl : Lib.decDigits n.toNat with
    | nil => exact absurd hl (decD_ne _)
    | cons c r =>
      have hc := hd c (by rw [hl]; exact List.mem_cons_self ..)
      rw [hl] at hp
      have e1 : ¬ (c.toNat = 43 ∨ c.toNat = 45) := by omega
      have e2 : ¬ c.toNat = 45 := by omega
      unfold Lib.atoiAll
      dsimp only
      rw [if_neg e1, hp]
      dsimp only
      rw [if_neg (fun h => by have := h.2; omega), if_neg (fun h => e2 h.1), if_neg e2]
      congr 1
      omega
theorem numM_itoa (n : Int) (hn : i64 n) : numM (Lib.itoa n) = some n := by
  unfold numM
  rw [atoi_itoa n hn]
  simp
theorem numM_some' {t : List UInt8} {n : Int} (h : numM t = some n) : Lib.itoa n = t ∧ i64 n := by
  unfold numM at h
  split at h
  · rename_i v hv
    split at h
    · rename_i e
      obtain rfl := Option.some.inj h
      refine ⟨e, ?_⟩
      unfold Lib.atoiAll at hv
      split at hv
      · cases hv
      · dsimp only at hv
        split at hv
        · cases hv
        · cases hv
        · rename_i u hu
          split at hv
          · cases hv
          · split at hv
            · cases hv
            · injection hv with hv
              unfold i64
              split at hv <;> omega
    · cases h
  · cases h
theorem itoa_bytes (n : Int) : ∀ c ∈ Lib.itoa n, c = 45 ∨ (48 ≤ c.toNat ∧ c.toNat ≤ 57) := by
  intro c hc
  unfold Lib.itoa at hc
  split at hc
  · rcases List.mem_cons.1 hc with rfl | hc
    · exact .inl rfl
    · exact .inr (decD_dig _ c hc)
  · exact .inr (decD_dig _ c hc)
theorem itoa_no (n : Int) : (32 : UInt8) ∉ Lib.itoa n ∧ (10 : UInt8) ∉ Lib.itoa n :=
  ⟨fun h => by rcases itoa_bytes n _ h with h | h <;> revert h <;> decide, fun h => by rcases itoa_bytes n _ h with h | h <;> revert h <;> decide⟩
theorem itoa_len {n : Int} (h : i64 n) : (Lib.itoa n).length ≤ 21 := Lib.itoa_length_le n h.1 h.2
theorem itoa_neg {n : Int} (h : n < 0) : Lib.itoa n = 45 :: Lib.decDigits n.natAbs := by unfold Lib.itoa; rw [if_pos h]
theorem itoa_pos {n : Int} (h : ¬ n < 0) : Lib.itoa n = Lib.decDigits n.toNat := by unfold Lib.itoa; rw [if_neg h]
theorem itoa_min : Lib.itoa (-9223372036854775808) = [45, 57, 50, 50, 51, 51, 55, 50, 48, 51, 54, 56, 53, 52, 55, 55, 53, 56, 48, 56] := by decide +kernel
theorem decD_len : ∀ (k u : Nat), u < 10 ^ (k + 1) → (Lib.decDigits u).length ≤ k + 1
  | 0, u, h => by rw [decD_small (by simpa using h)]; simp
  | k + 1, u, h => by
    by_cases hu : u < 10
    · rw [decD_small hu]; simp
    · rw [decD_big hu, List.length_append]
      have := decD_len k (u / 10) (by rw [Nat.pow_succ] at h; omega)
      simpa using this
theorem itoa_len20 {n : Int} (h : i64 n) : 0 < (Lib.itoa n).length ∧ (Lib.itoa n).length ≤ 20 := by
  obtain ⟨h0, h1⟩ := h
  by_cases hn : n < 0
  · rw [itoa_neg hn]
    have := decD_len 18 n.natAbs (by omega)
    simp only [List.length_cons]; omega
  · rw [itoa_pos hn]
    have := decD_len 18 n.toNat (by omega)
    have h2 := decD_ne n.toNat
    have h3 := List.length_pos_iff.2 h2
    omega
theorem i64_wrap (n : Int) : i64 (wrap64 n) := by unfold i64 wrap64; omega
/-- What the loop has of a number's text, where there is one. -/
def NInv (t : List UInt8) (k : Nat) (v : Int) : Prop :=
  ∀ m, i64 m → Lib.itoa m = t → (m < 0 → v = -(valD 0 ((t.drop 1).take (k - 1)) : Int)) ∧ (¬ m < 0 → v = (valD 0 (t.take k) : Int))
theorem nin_zero (t : List UInt8) : NInv t 0 0 := fun _m _ _ => ⟨fun _ => rfl, fun _ => rfl⟩
theorem dig_first {u : Nat} {t : List UInt8} (h : Lib.decDigits u = t) (h0 : 0 < t.length) : t[0] ≠ 45 := by
  intro e
  subst h
  have := decD_dig u _ (List.getElem_mem h0)
  rw [e] at this
  exact absurd this.1 (by decide)
theorem nin_skip {t : List UInt8} {v : Int} (h0 : 0 < t.length) (h : t[0] = 45) (hn : NInv t 0 v) : NInv t 1 v := fun m hi ht => ⟨fun hm => (hn m hi ht).1 hm, fun hm => by
  rw [itoa_pos hm] at ht
  exact absurd h (dig_first ht h0)⟩
theorem valD_take (l : List UInt8) (k : Nat) (h : k < l.length) : valD 0 (l.take (k + 1)) = valD 0 (l.take k) * 10 + (l[k].toNat - 48) ∧ valD 0 (l.take (k + 1)) ≤ valD 0 l := by
  refine ⟨?_, ?_⟩
  · rw [List.take_succ_eq_append_getElem h, valD_append]; rfl
  · have : valD 0 l = valD (valD 0 (l.take (k + 1))) (l.drop (k + 1)) := by rw [← valD_append, List.take_append_drop]
    rw [this]
    exact valD_ge _ _
theorem nin_neg {t : List UInt8} {k : Nat} {v : Int} (hk : k < t.length) (h0 : t[0] = 45) (hd : 48 ≤ t[k].toNat ∧ t[k].toNat ≤ 57) (h : NInv t k v) : NInv t (k + 1) (wrap64 (wrap64 (v * 10) - ((t[k].toNat : Int) - 48))) := by
  intro m hm ht
  obtain ⟨h1, _⟩ := h m hm ht
  refine ⟨fun hn => ?_, fun hn => ?_⟩
  · have hv := h1 hn
    rw [itoa_neg hn] at ht
    subst ht
    obtain ⟨q, rfl⟩ : ∃ q, k = q + 1 := by
      cases k with
      | zero => exfalso; have := hd.1; revert this; simp only [List.getElem_cons_zero]; decide
      | succ q => exact ⟨q, rfl⟩
    simp only [List.drop_succ_cons, List.drop_zero, Nat.add_sub_cancel, List.getElem_cons_succ] at hv hd ⊢
    have hq : q < (Lib.decDigits m.natAbs).length := by simpa using hk
    obtain ⟨e1, e2⟩ := valD_take _ q hq
    rw [valD_dec] at e2
    have hm1 := hm.1
    have a1 : wrap64 (v * 10) = v * 10 := IntWalk.wrap64_in _ (by omega)
    rw [a1, IntWalk.wrap64_in _ (by omega)]
    omega
  · rw [itoa_pos hn] at ht
    exact absurd h0 (dig_first ht (by omega))
theorem nin_pos {t : List UInt8} {k : Nat} {v : Int} (hk : k < t.length) (h0 : t[0] ≠ 45) (hd : 48 ≤ t[k].toNat ∧ t[k].toNat ≤ 57) (h : NInv t k v) : NInv t (k + 1) (wrap64 (wrap64 (v * 10) + ((t[k].toNat : Int) - 48))) := by
  intro m hm ht
  obtain ⟨_, h1⟩ := h m hm ht
  refine ⟨fun hn => ?_, fun hn => ?_⟩
  · rw [itoa_neg hn] at ht
    subst ht
    exact absurd rfl h0
  · have hv := h1 hn
    rw [itoa_pos hn] at ht
    subst ht
    obtain ⟨e1, e2⟩ := valD_take _ k hk
    rw [valD_dec] at e2
    have hm1 := hm.2
    have a1 : wrap64 (v * 10) = v * 10 := IntWalk.wrap64_in _ (by omega)
    rw [a1, IntWalk.wrap64_in _ (by omega)]
    omega
theorem nin_bad {t : List UInt8} {k : Nat} (hk : k < t.length) (hd : ¬ (48 ≤ t[k].toNat ∧ t[k].toNat ≤ 57)) (h0 : ¬ (t[k] = 45 ∧ k = 0)) : numM t = none := by
  cases h : numM t with
  | none => rfl
  | some m =>
    exfalso
    obtain ⟨ht, hm⟩ := numM_some' h
    by_cases hn : m < 0
    · rw [itoa_neg hn] at ht
      subst ht
      cases k with
      | zero => exact h0 ⟨rfl, rfl⟩
      | succ q =>
        simp only [List.getElem_cons_succ] at hd
        exact hd (decD_dig _ _ (List.getElem_mem _))
    · rw [itoa_pos hn] at ht
      subst ht
      exact hd (decD_dig _ _ (List.getElem_mem _))
theorem nin_end {t : List UInt8} {v m : Int} (h : NInv t t.length v) (hm : numM t = some m) : m = v := by
  obtain ⟨ht, hi⟩ := numM_some' hm
  obtain ⟨h1, h2⟩ := h m hi ht
  by_cases hn : m < 0
  · have := h1 hn
    rw [itoa_neg hn] at ht
    subst ht
    simp only [List.drop_succ_cons, List.drop_zero, List.length_cons, Nat.add_sub_cancel, List.take_length, valD_dec] at this
    omega
  · have := h2 hn
    rw [itoa_pos hn] at ht
    subst ht
    rw [List.take_length, valD_dec] at this
    omega
theorem numM_long {t : List UInt8} (h : ¬ (0 < t.length ∧ t.length ≤ 20)) : numM t = none := by
  cases hm : numM t with
  | none => rfl
  | some m =>
    obtain ⟨ht, hi⟩ := numM_some' hm
    exact absurd (ht ▸ itoa_len20 hi) h
theorem str_eqC {a b : List UInt8} : ((bs a).toList == (bs b).toList) = decide (a = b) := by
  rw [ByteArray.toList_eq, ByteArray.toList_eq, bs_toList, bs_toList]
  rw [Bool.eq_iff_iff]; simp

end Go.Proofs.YtdknejmhlfpdfaaDoor
