/-
  The reference's list of words, and whether a text is in a list.
-/
import Derived.Test.YtdknejmhlfpdfaaGreatDoorAll
namespace Go.Proofs.YtdknejmhlfpdfaaGreatDoor
open Go.RowKit

/-- A slice value reads as the texts xs, in a block below B. -/
def StrAt (w : World) (B : Nat) (A : Option Addr) (n : Nat) (xs : List (List UInt8)) : Prop :=
  xs.length = n ∧ (0 < n → ∃ b off, A = some ⟨b, off, none⟩ ∧ b < B ∧ ∀ i (h : i < xs.length), w.cell? ⟨b, off + i, none⟩ = some (.string (bs xs[i])))
theorem StrAt.below {w w' : World} {B B' : Nat} {A : Option Addr} {n : Nat} {xs : List (List UInt8)} (h : StrAt w B A n xs) (hb : Below B' w w') (hB : B ≤ B') : StrAt w' B A n xs :=
  ⟨h.1, fun hn => by
    obtain ⟨b, off, rfl, hlt, hc⟩ := h.2 hn
    exact ⟨b, off, rfl, hlt, fun i hi => (hb.cell (p := ⟨b, off + i, none⟩) (by simp; omega)).trans (hc i hi)⟩⟩
theorem StrAt.mono {w : World} {B B' : Nat} {A : Option Addr} {n : Nat} {xs : List (List UInt8)} (h : StrAt w B A n xs) (hB : B ≤ B') : StrAt w B' A n xs :=
  ⟨h.1, fun hn => by
    obtain ⟨b, off, rfl, hlt, hc⟩ := h.2 hn
    exact ⟨b, off, rfl, by omega, hc⟩⟩
theorem StrAt.get {w : World} {B : Nat} {A : Option Addr} {n : Nat} {xs : List (List UInt8)} (h : StrAt w B A n xs) (i : Nat) (hi : i < n) : ∃ b off, A = some ⟨b, off, none⟩ ∧ b < B ∧ ∃ h : i < xs.length, w.cell? ⟨b, off + i, none⟩ = some (.string (bs xs[i])) := by
  obtain ⟨b, off, e, hlt, hc⟩ := h.2 (by omega)
  have hx : i < xs.length := by rw [h.1]; exact hi
  exact ⟨b, off, e, hlt, hx, hc i hx⟩
/-- A new row of texts. -/
theorem strAt_new (w : World) (V : Array Value) (t : TypeId) (xs : List (List UInt8)) (n : Nat) (hn : xs.length = n) (hv : ∀ i (h : i < xs.length), V[i]? = some (.string (bs xs[i]))) :
    StrAt (w.alloc (.cells V t)) (w.heap.size + 1) (some ⟨w.heap.size, 0, none⟩) n xs := by
  refine ⟨hn, fun _ => ⟨w.heap.size, 0, rfl, by omega, fun i hi => ?_⟩⟩
  rw [Nat.zero_add, ← hv i hi]
  have : (w.alloc (.cells V t)).heap[w.heap.size]? = some (.cells V t (0, 0)) := by
    show (w.heap.push _)[w.heap.size]? = _
    simp
  generalize w.alloc (.cells V t) = W at this
  simp [World.cell?, this]

def hasB (xs : List (List UInt8)) (b : List UInt8) : Bool := xs.contains b
theorem hasB_yes {xs : List (List UInt8)} {b : List UInt8} (i : Nat) (h : i < xs.length) (e : b = xs[i]) : hasB xs b = true := by
  subst e; simp [hasB]
theorem hasB_no {xs : List (List UInt8)} {b : List UInt8} (h : ∀ i (h : i < xs.length), b ≠ xs[i]) : hasB xs b = false := by
  unfold hasB
  rw [Bool.eq_false_iff]
  intro hc
  obtain ⟨i, hi, e⟩ := List.mem_iff_getElem.1 (show b ∈ xs by simpa using hc)
  exact h i hi e.symm

set_option maxRecDepth 100000 in
set_option maxHeartbeats 1000000 in
theorem has_calls (A : Option Addr) (n c : Nat) (xs : List (List UInt8)) (s : ByteArray) (hn : n ≤ 100000) (w : World) (B : Nat) (hx : StrAt w B A n xs) :
    Calls Tryz.prog 58 #[.slice A n c, .string s] w fun e w' => e = .returned (.bool (hasB xs s.data.toList)) ∧ w = w' := by
  have HX := Lib.hid hx
  have HL := Lib.hid hx.1
  clear hx
  go_enter Tryz.func58, Tryz.ntmps58
  go_wp2
  go_loop [8] (fun a => ∃ i : Nat, i ≤ n ∧ a = .int .i64 i ∧ Hid (∀ j (h : j < xs.length), j < i → s.data.toList ≠ xs[j])) (fun a => n - (intOf a).toNat)
  case atStart => exact ⟨0, by omega, rfl, Lib.hid (fun j _ hj => by omega)⟩
  case round =>
    obtain ⟨i, hi, rfl, HN⟩ := hrel
    by_cases hlt : i < n
    · obtain ⟨b, off, rfl, hb, hxl, hc⟩ := HX.out.get i hlt
      have h1 : (i : Int) < (n : Int) := by omega
      by_cases he : s.data.toList = xs[i]
      · have HE := Lib.hid (hasB_yes i hxl he)
        have hq : ((bs xs[i]).toList == s.toList) = true := by rw [← he]; exact beq_self_eq_true _
        clear he
        go_wp2
        go_ret
        exact ⟨ret_bool HE.out.symm, rfl⟩
      · have HE := Lib.hid he
        have hq : ((bs xs[i]).toList == s.toList) = false := str_ne (fun e => he (by rw [← e, bs_toList]))
        clear he
        go_wp2
        go_round
        case rel => exact ⟨i + 1, by omega, by go_num, Lib.hid (fun j hj hji => by
          by_cases h : j = i
          · subst h; exact HE.out
          · exact HN.out j hj (by omega))⟩
        case measure => simp [intOf]; omega
    · obtain rfl : i = n := by omega
      have HE := Lib.hid (hasB_no (xs := xs) (b := s.data.toList) (fun j hj => HN.out j hj (by rw [← HL.out]; exact hj)))
      go_wp2
      go_ret
      exact ⟨ret_bool HE.out.symm, rfl⟩

theorem wordsV_words (i : Nat) (h : i < wordsL.length) : wordsV[i]? = some (.string (bs wordsL[i])) := by
  rw [wordsV_get i (by simpa [wordsL] using h)]
  unfold wordB
  rw [List.getD_eq_getElem?_getD, List.getElem?_eq_getElem h]
  rfl
set_option maxRecDepth 100000 in
set_option maxHeartbeats 1000000 in
theorem refWords_calls (w : World) : Calls Tryz.prog 59 #[] w fun e w' => e = .returned (.slice (some ⟨w.heap.size, 0, none⟩) 13 13) ∧ w.alloc (.cells wordsV 9) = w' := by
  go_enter Tryz.func59, Tryz.ntmps59
  go_wp2
  go_ret
  exact ⟨rfl, rfl⟩

end Go.Proofs.YtdknejmhlfpdfaaGreatDoor
