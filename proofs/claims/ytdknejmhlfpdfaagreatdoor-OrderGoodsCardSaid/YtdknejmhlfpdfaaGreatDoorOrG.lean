/-
  Package order: Parse.
-/
import Derived.Test.YtdknejmhlfpdfaaGreatDoorOrJ
namespace Go.Proofs.YtdknejmhlfpdfaaGreatDoor
open Go.RowKit

theorem orderOf_calls (k : Nat) (hk : 1 ≤ k ∧ k ≤ 20) (N : Nat) (t : List UInt8) (ht : t.length ≤ 100000) (W0 : World) (hX : XO W0) (hNW : W0.heap.size ≤ N) (w : World) (hB : Below W0.heap.size W0 w) (hN : BxT w N t) :
    Calls Tryz.prog 13 #[.int .i64 (k : Int), .func (.func 20) #[] #[.pointer (some ⟨N, 0, none⟩)]] w (OoP k t W0) := by
  obtain ⟨j, rfl⟩ : ∃ j, k = j + 1 := ⟨k - 1, by omega⟩
  have : bhK (j + 1) = 0 ∨ bhK (j + 1) = 1 ∨ bhK (j + 1) = 2 := by
    unfold bhK
    split
    · exact .inl rfl
    · split
      · exact .inr (.inl rfl)
      · exact .inr (.inr rfl)
  rcases this with h | h | h
  · exact orderOf0 j (by omega) h _ rfl N t ht W0 hX hNW w hB hN
  · exact orderOf1 j (by omega) h _ rfl N t ht W0 hX hNW w hB hN
  · exact orderOf2 j (by omega) h _ rfl N t ht W0 hX hNW w hB hN
/-- What Parse answers. -/
def PsP (t : List UInt8) (w : World) (e : Ending) (w' : World) : Prop := e = .returned (.tuple #[orV (ordM t).1, .int .i64 ((ordM t).2 : Int)]) ∧ Below w.heap.size w w'
set_option maxRecDepth 100000 in
set_option maxHeartbeats 2000000 in
theorem parse_long (t : List UInt8) (hl : 200 < t.length) (ht : t.length ≤ 100000) (w : World) : Calls Tryz.prog 6 #[.string (bs t)] w (PsP t w) := by
  have HR : Hid (ordM t = (zO, 1)) := Lib.hid (by unfold ordM; rw [if_pos hl])
  have hsz : (bs t).size = t.length := bs_size t
  have d0 : decide ((200 : Int) < (t.length : Int)) = true := decide_eq_true (by omega)
  have HB := Lib.hid ((Below.refl w.heap.size w).alloc (Nat.le_refl _) (.cells #[.int .i64 0, .string ⟨#[]⟩, .int .i64 0] 24))
  unfold PsP
  generalize bs t = s at *
  go_enter Tryz.func6, Tryz.ntmps6
  go_wp2_with fail
  refine bodyPost_ret (v := .tuple #[.agg #[.int .i64 0, .string ⟨#[]⟩, .int .i64 0], .int .i64 1]) (by simp [results, Tryz.results6, go_sem]) rfl ⟨by rw [HR.out]; rfl, ?_⟩
  first | exact HB.out | exact ((HB.out.setCell (p := ⟨w.heap.size, 0, none⟩) (Nat.le_refl _) _).setCell (p := ⟨w.heap.size, 1, none⟩) (Nat.le_refl _) _).setCell (p := ⟨w.heap.size, 2, none⟩) (Nat.le_refl _) _
set_option maxRecDepth 100000 in
set_option maxHeartbeats 2000000 in
theorem parse_short (t : List UInt8) (hl : ¬ 200 < t.length) (w : World) (hX : XO w) : Calls Tryz.prog 6 #[.string (bs t)] w (PsP t w) := by
  have hor := ordM_or t
  rw [if_neg hl] at hor
  have hsz : (bs t).size = t.length := bs_size t
  have d0 : decide ((200 : Int) < (t.length : Int)) = false := decide_eq_false (by omega)
  have hX1 := hX.below ((Below.refl w.heap.size w).alloc (Nat.le_refl _) (.cells #[.int .i64 0, .string ⟨#[]⟩, .int .i64 0] 24)) (Nat.le_refl _)
  have hB1 : Below w.heap.size w (w.alloc (.cells #[.int .i64 0, .string ⟨#[]⟩, .int .i64 0] 24)) := (Below.refl w.heap.size w).alloc (Nat.le_refl _) _
  have hH1 := heapOne w #[.int .i64 0, .string ⟨#[]⟩, .int .i64 0] 24
  have hs1 := szA w (.cells #[.int .i64 0, .string ⟨#[]⟩, .int .i64 0] 24)
  have HX1 := Lib.hid hX1
  have HB1 := Lib.hid hB1
  have HH1 := Lib.hid hH1
  have HS1 := Lib.hid hs1
  have HOR := Lib.hid hor
  have HPC := Lib.hid (fun W => parter_calls (bs t) W)
  have HTL := Lib.hid (Nat.le_of_not_lt hl)
  unfold PsP
  clear hX1 hB1 hH1 hs1 hX hor hl
  have HBS : Hid (∀ W N, BxT W N t ↔ W.heap[N]? = some (.cells #[.string (bs t)] 9 (0, 0))) := Lib.hid (fun _ _ => Iff.rfl)
  generalize bs t = s at *
  go_enter Tryz.func6, Tryz.ntmps6
  go_wp2_with fail
  generalize w.alloc (.cells #[.int .i64 0, .string ⟨#[]⟩, .int .i64 0] 24) = W1 at *
  obtain ⟨N2, hN2⟩ : ∃ N2, N2 = w.heap.size := ⟨_, rfl⟩
  rw [← hN2] at HH1 HS1 ⊢
  have HN2 := Lib.hid hN2
  clear hN2
  refine (HPC.out W1).mono ?_
  rintro e w2 ⟨rfl, rfl⟩
  have HBx : Hid (BxT (W1.alloc (.cells #[.string s] 9)) W1.heap.size t) := Lib.hid ((HBS.out _ _).2 (heapOne W1 _ _))
  have HB2 := Lib.hid ((Below.refl W1.heap.size W1).alloc (Nat.le_refl _) (.cells #[.string s] 9))
  generalize W1.alloc (.cells #[.string s] 9) = w2 at *
  have HNX := Lib.hid (next_calls W1.heap.size t (by have := HTL.out; omega) w2 HBx.out)
  generalize hN : W1.heap.size = N at *
  have HNE := Lib.hid hN
  clear hN
  go_wp2_with fail
  refine HNX.out.mono ?_
  rintro e w3 ⟨rfl, hbx, hm3⟩
  have HBx3 := Lib.hid hbx
  have HB3 : Hid (Below N W1 w3) := Lib.hid (HB2.out.trans (hm3.below (Nat.le_refl _) (by rw [← HNE.out]; exact HB2.out.size)))
  clear hbx hm3
  have HX3 := Lib.hid (HX1.out.below HB3.out (by rw [HNE.out]; exact Nat.le_refl _))
  have HKO := Lib.hid (kindOf_calls (hdW t) w3 HX3.out)
  generalize bs (hdW t) = xw at *
  go_wp2_with fail
  refine HKO.out.mono ?_
  rintro e w4 ⟨rfl, hb⟩
  have hN3 : N ≤ w3.heap.size := by rw [← HNE.out]; exact HB3.out.size
  have HB4 : Hid (Below N W1 w4) := Lib.hid (HB3.out.trans (hb.mono hN3))
  have HBx4 : Hid (BxT w4 N (tlW t)) := Lib.hid ((hb.block N (blkLt HBx3.out)).trans HBx3.out)
  have hN2N : N2 < N := by have := HS1.out; omega
  have H24 : Hid (w4.heap[N2]? = some (.cells #[.int .i64 0, .string ⟨#[]⟩, .int .i64 0] 24 (0, 0))) := Lib.hid ((HB4.out.block N2 hN2N).trans HH1.out)
  have HBw4 : Hid (Below N2 w w4) := Lib.hid (by
    have h1 := HB1.out
    rw [← HN2.out] at h1
    exact h1.trans (HB4.out.mono (by omega)))
  have hor := HOR.out
  clear hb hN3 HKO HBx3 HB3 HX3 HNX HPC
  have hke := kindM_le (hdW t)
  generalize kindM (hdW t) = K at *
  by_cases hk0 : K = 0
  · rw [if_pos hk0] at hor
    have HR := Lib.hid hor
    subst hk0
    have z40 : w4.cell? ⟨N2, 0, none⟩ = some (.int .i64 0) := cellC H24.out 0
    have z41 : w4.cell? ⟨N2, 1, none⟩ = some (.string ⟨#[]⟩) := cellC H24.out 1
    have z42 : w4.cell? ⟨N2, 2, none⟩ = some (.int .i64 0) := cellC H24.out 2
    have f40 : w4.frozen? ⟨N2, 0, none⟩ = false := frz43 H24.out 0
    have f41 : w4.frozen? ⟨N2, 1, none⟩ = false := frz43 H24.out 1
    have f42 : w4.frozen? ⟨N2, 2, none⟩ = false := frz43 H24.out 2
    have hz : N2 < w4.heap.size := blkLt H24.out
    clear hor hke
    go_wp2_with fail
    refine bodyPost_ret (v := .tuple #[.agg #[.int .i64 0, .string ⟨#[]⟩, .int .i64 0], .int .i64 16]) (by simp [results, Tryz.results6, go_sem, z40, z41, z42]) rfl ⟨by rw [HR.out]; rfl, ?_⟩
    rw [← HN2.out]
    exact ((HBw4.out.setCell (p := ⟨N2, 0, none⟩) (Nat.le_refl _) _).setCell (p := ⟨N2, 1, none⟩) (Nat.le_refl _) _).setCell (p := ⟨N2, 2, none⟩) (Nat.le_refl _) _
  · rw [if_neg hk0] at hor
    have hkq : ((K : Int) == 0) = false := beq_eq_false_iff_ne.2 (by omega)
    have HOO := Lib.hid (orderOf_calls K ⟨by omega, hke⟩ N (tlW t) (by have := tlW_len t; have := HTL.out; omega) W1 HX1.out (by rw [HNE.out]; exact Nat.le_refl _) w4 (by rw [HNE.out]; exact HB4.out) HBx4.out)
    have HOR := Lib.hid hor
    have HKQ := Lib.hid hk0
    clear hor hke hk0
    go_wp2_with fail
    refine HOO.out.mono ?_
    rintro e w5 ⟨hb, h⟩
    rw [HNE.out] at hb
    have H25 : Hid (w5.heap[N2]? = some (.cells #[.int .i64 0, .string ⟨#[]⟩, .int .i64 0] 24 (0, 0))) := Lib.hid ((hb.block N2 hN2N).trans HH1.out)
    have HBw5 : Hid (Below N2 w w5) := Lib.hid (by
      have h1 := HB1.out
      rw [← HN2.out] at h1
      exact h1.trans (hb.mono (by omega)))
    have z40 : w5.cell? ⟨N2, 0, none⟩ = some (.int .i64 0) := cellC H25.out 0
    have z41 : w5.cell? ⟨N2, 1, none⟩ = some (.string ⟨#[]⟩) := cellC H25.out 1
    have z42 : w5.cell? ⟨N2, 2, none⟩ = some (.int .i64 0) := cellC H25.out 2
    have f40 : w5.frozen? ⟨N2, 0, none⟩ = false := frz43 H25.out 0
    have f41 : w5.frozen? ⟨N2, 1, none⟩ = false := frz43 H25.out 1
    have f42 : w5.frozen? ⟨N2, 2, none⟩ = false := frz43 H25.out 2
    have hz : N2 < w5.heap.size := blkLt H25.out
    have hor := HOR.out
    clear hb HOO H24 HBw4 HB4 HBx4
    rcases h with ⟨⟨ko, no, io⟩, ho, rfl⟩ | ⟨ho, a, b, c, rfl⟩
    · rw [ho] at hor
      have HR := Lib.hid hor
      clear hor ho
      dsimp only
      go_wp2_with fail
      refine bodyPost_ret (v := .tuple #[.agg #[.int .i64 ko, .string (bs no), .int .i64 io], .int .i64 0]) (by simp [results, Tryz.results6, go_sem, hz, z40, z41, z42]) rfl ⟨by rw [HR.out]; rfl, ?_⟩
      rw [← HN2.out]
      have h3 := ((HBw5.out.setCell (p := ⟨N2, 0, none⟩) (Nat.le_refl _) (.int .i64 ko)).setCell (p := ⟨N2, 1, none⟩) (Nat.le_refl _) (.string (bs no))).setCell (p := ⟨N2, 2, none⟩) (Nat.le_refl _) (.int .i64 io)
      exact h3.alloc (by have h4 := h3.size; have h5 := HN2.out; omega) _
    · rw [ho] at hor
      have HR := Lib.hid hor
      clear hor ho
      go_wp2_with fail
      refine bodyPost_ret (v := .tuple #[.agg #[.int .i64 0, .string ⟨#[]⟩, .int .i64 0], .int .i64 3]) (by simp [results, Tryz.results6, go_sem, hz, z40, z41, z42]) rfl ⟨by rw [HR.out]; rfl, ?_⟩
      rw [← HN2.out]
      have h3 := ((HBw5.out.setCell (p := ⟨N2, 0, none⟩) (Nat.le_refl _) (.int .i64 0)).setCell (p := ⟨N2, 1, none⟩) (Nat.le_refl _) (.string ⟨#[]⟩)).setCell (p := ⟨N2, 2, none⟩) (Nat.le_refl _) (.int .i64 0)
      exact h3.alloc (by have h4 := h3.size; have h5 := HN2.out; omega) _

theorem parse_calls (t : List UInt8) (ht : t.length ≤ 100000) (w : World) (hX : XO w) : Calls Tryz.prog 6 #[.string (bs t)] w (PsP t w) := by
  by_cases h : 200 < t.length
  · exact parse_long t h ht w
  · exact parse_short t h w hX

end Go.Proofs.YtdknejmhlfpdfaaGreatDoor
