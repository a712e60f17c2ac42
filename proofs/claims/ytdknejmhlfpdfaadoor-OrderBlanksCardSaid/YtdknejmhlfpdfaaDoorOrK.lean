/-
  Package order: Good, Text.
-/
import Derived.Test.YtdknejmhlfpdfaaDoorOrH
import Derived.Test.YtdknejmhlfpdfaaDoorOrL
namespace Go.Proofs.YtdknejmhlfpdfaaDoor
open Go.RowKit

theorem lnC_len (k : Nat) (hk : k ≤ 20) (nm : List UInt8) (n : Int) (hn : i64 n) (hl : nm.length ≤ 1000) : (lnC k nm n).length ≤ 1100 := by
  have h1 := kwB_len k hk
  have h2 := itoa_len hn
  unfold lnC plC
  split
  · omega
  · split
    · simp only [List.length_append, List.length_cons]; omega
    · split <;> simp only [List.length_append, List.length_cons, List.length_nil] <;> omega
theorem good_txt {o : OrdM} {k : Nat} (hk : 1 ≤ k ∧ k ≤ 20) (he : o.kind = (k : Int)) (h : GoodO o) : lnC k o.name o.num = txtO o := by
  obtain ⟨_, h⟩ := h
  unfold lnC txtO bhK
  rw [he] at h ⊢
  rw [Int.toNat_natCast]
  by_cases h9 : 9 ≤ (k : Int) ∧ (k : Int) < 12
  · rw [if_pos h9, if_neg (c := k < 9 ∨ 15 < k) (by omega), if_pos (c := k < 12) (by omega), if_neg (by decide), if_pos rfl]
  · rw [if_neg h9]
    rw [if_neg h9] at h
    by_cases h12 : 12 ≤ (k : Int) ∧ (k : Int) < 16
    · rw [if_pos h12, if_neg (c := k < 9 ∨ 15 < k) (by omega), if_neg (c := k < 12) (by omega), if_neg (by decide), if_neg (by decide)]
      rw [if_pos h12] at h
      unfold plC placeT
      by_cases hn : o.num = -1
      · rw [if_pos hn, if_neg (by omega), List.append_nil]
      · rw [if_neg hn, if_pos (by omega)]
    · rw [if_neg h12, if_pos (c := k < 9 ∨ 15 < k) (by omega), if_pos rfl]
theorem good_line {o : OrdM} {k : Nat} (hk : 1 ≤ k ∧ k ≤ 20) (he : o.kind = (k : Int)) : ordM (lnC k o.name o.num) = (o, 0) ↔ GoodO o := by
  constructor
  · exact ord_good
  · intro h
    rw [good_txt hk he h]
    exact (ord_txt h).1
set_option maxRecDepth 100000 in
set_option maxHeartbeats 4000000 in
theorem good_calls (o : OrdM) (ho : GoodX o) (w : World) (hX : XO w) : Calls Tryd.prog 10 #[ordV o] w fun e w' => (∃ b, e = .returned (.bool b) ∧ (b = true ↔ GoodO o)) ∧ Below w.heap.size w w' := by
  obtain ⟨k, nm, n⟩ := o
  obtain ⟨hk, hn, hl⟩ := ho
  simp only at hk hn hl
  unfold ordV
  simp only
  have hB0 := (Below.refl w.heap.size w).alloc (Nat.le_refl _) (.cells #[.int .i64 k, .string (bs nm), .int .i64 n] 26)
  have HB0 := Lib.hid hB0
  have HX0 := Lib.hid (heapOne w #[.int .i64 k, .string (bs nm), .int .i64 n] 26)
  have HX1 := Lib.hid (hX.below hB0 (Nat.le_refl _))
  clear hB0 hX
  have hlo : 1 ≤ k ∨ k < 1 := by omega
  rcases hlo with h1 | h1
  · by_cases h2 : 20 < k
    · have HN : Hid (¬ GoodO ⟨k, nm, n⟩) := Lib.hid (fun h => by have := h.1.2; simp only at this; omega)
      have d1 : decide (k < 1) = false := decide_eq_false (by omega)
      have d2 : decide (20 < k) = true := decide_eq_true h2
      generalize bs nm = s at *
      clear h1 h2
      go_enter Tryd.func10, Tryd.ntmps10
      go_wp2_with fail
      go_ret
      exact ⟨⟨false, rfl, by simp [HN.out]⟩, HB0.out⟩
    · obtain ⟨j, hj⟩ : ∃ j : Nat, k = ((j + 1 : Nat) : Int) := ⟨(k - 1).toNat, by omega⟩
      have hj20 : j < 20 := by omega
      have d1 : decide (k < 1) = false := decide_eq_false (by omega)
      have d2 : decide (20 < k) = false := decide_eq_false h2
      have HL := Lib.hid (fun W (hW : XO W) => line_calls k j hj20 hj nm n hn hl W hW)
      have HP := Lib.hid (fun W (hW : XO W) => parse_calls (lnC (j + 1) nm n) (by have := lnC_len (j + 1) (by omega) nm n hn hl; omega) W hW)
      have hgl := good_line (o := ⟨k, nm, n⟩) (k := j + 1) ⟨by omega, by omega⟩ hj
      simp only at hgl
      have HGL := Lib.hid hgl
      unfold PsP at HP
      clear hj h1 h2 hgl
      generalize bs (lnC (j + 1) nm n) = ln at *
      generalize ordM (lnC (j + 1) nm n) = om at *
      obtain ⟨⟨ko, no, io⟩, c⟩ := om
      have HGE : Hid (c = 0 → ((ko = k ∧ (bs no).toList = (bs nm).toList ∧ io = n) ↔ GoodO ⟨k, nm, n⟩)) := Lib.hid (fun hc => by
        rw [← HGL.out, hc]
        constructor
        · rintro ⟨rfl, h, rfl⟩
          rw [ByteArray.toList_eq, ByteArray.toList_eq, bs_toList, bs_toList] at h
          rw [h]
        · intro h
          injection h with h _
          injection h with h1 h2 h3
          exact ⟨h1, by rw [h2], h3⟩)
      have HGN : Hid (c ≠ 0 → ¬ GoodO ⟨k, nm, n⟩) := Lib.hid (fun hc => by
        rw [← HGL.out]
        intro h
        injection h with _ h
        exact hc h)
      generalize bs nm = s at *
      go_enter Tryd.func10, Tryd.ntmps10
      go_upto_region 1 with (fail)
      generalize w.alloc (.cells #[.int .i64 k, .string s, .int .i64 n] 26) = W1 at *
      obtain ⟨G, hG⟩ : ∃ G, G = w.heap.size := ⟨_, rfl⟩
      rw [← hG] at HX0 ⊢
      have HG := Lib.hid hG
      clear hG
      have y0 : W1.cell? ⟨G, 0, none⟩ = some (.int .i64 k) := cellC HX0.out 0
      have y1 : W1.cell? ⟨G, 1, none⟩ = some (.string s) := cellC HX0.out 1
      have y2 : W1.cell? ⟨G, 2, none⟩ = some (.int .i64 n) := cellC HX0.out 2
      have HL1 := Lib.hid (HL.out W1 HX1.out)
      go_wp2_with fail
      refine HL1.out.mono ?_
      rintro e w2 ⟨rfl, hb⟩
      have HB2 := Lib.hid hb
      have HP2 := Lib.hid (HP.out w2 (HX1.out.below hb (Nat.le_refl _)))
      clear hb HL1 HL HP
      go_wp2_with fail
      refine HP2.out.mono ?_
      rintro e w3 ⟨rfl, hb⟩
      have HB3 := Lib.hid (HB2.out.trans (hb.mono HB2.out.size))
      have hx3 := (HB3.out.block G (blkLt HX0.out)).trans HX0.out
      have z0 : w3.cell? ⟨G, 0, none⟩ = some (.int .i64 k) := cellC hx3 0
      have z1 : w3.cell? ⟨G, 1, none⟩ = some (.string s) := cellC hx3 1
      have z2 : w3.cell? ⟨G, 2, none⟩ = some (.int .i64 n) := cellC hx3 2
      have hz : G < w3.heap.size := blkLt hx3
      have HBF := Lib.hid (HB0.out.trans (HB3.out.mono HB0.out.size))
      clear hb y0 y1 y2 HP2 hx3
      dsimp only
      by_cases hc : c = 0
      · subst hc
        have HGE' := Lib.hid (HGE.out rfl)
        clear HGE HGN HGL
        go_wp2_with fail
        all_goals
          go_ret
          refine ⟨⟨_, rfl, ?_⟩, HBF.out.alloc HBF.out.size _⟩
          rw [← HGE'.out]
          simp [*]
      · have hcq : ((c : Int) == 0) = false := beq_eq_false_iff_ne.2 (by omega)
        have HN := Lib.hid (HGN.out hc)
        clear hc HGE HGN HGL
        go_wp2_with fail
        go_ret
        exact ⟨⟨false, rfl, by simp [HN.out]⟩, HBF.out.alloc HBF.out.size _⟩
  · have HN : Hid (¬ GoodO ⟨k, nm, n⟩) := Lib.hid (fun h => by have := h.1.1; simp only at this; omega)
    have d1 : decide (k < 1) = true := decide_eq_true h1
    generalize bs nm = s at *
    clear h1
    go_enter Tryd.func10, Tryd.ntmps10
    go_wp2_with fail
    go_ret
    exact ⟨⟨false, rfl, by simp [HN.out]⟩, HB0.out⟩

set_option maxRecDepth 100000 in
set_option maxHeartbeats 2000000 in
theorem text_calls (o : OrdM) (ho : GoodX o) (w : World) (hX : XO w) : Calls Tryd.prog 11 #[ordV o] w fun e w' => (∃ s, e = .returned (.string (bs s)) ∧ (GoodO o → s = txtO o) ∧ (¬ GoodO o → s = [])) ∧ Below w.heap.size w w' := by
  have hgd := fun W (hW : XO W) => good_calls o ho W hW
  obtain ⟨k, nm, n⟩ := o
  obtain ⟨hk, hn, hl⟩ := ho
  simp only at hk hn hl
  unfold ordV at hgd ⊢
  simp only at hgd ⊢
  have hB0 := (Below.refl w.heap.size w).alloc (Nat.le_refl _) (.cells #[.int .i64 k, .string (bs nm), .int .i64 n] 26)
  have HB0 := Lib.hid hB0
  have HX0 := Lib.hid (heapOne w #[.int .i64 k, .string (bs nm), .int .i64 n] 26)
  have HX1 := Lib.hid (hX.below hB0 (Nat.le_refl _))
  have HGD := Lib.hid hgd
  have HLN := Lib.hid (fun (j : Nat) (hj : j < 20) (he : k = ((j + 1 : Nat) : Int)) W (hW : XO W) => line_calls k j hj he nm n hn hl W hW)
  clear hB0 hX hgd
  generalize hs : bs nm = s at *
  clear hs
  go_enter Tryd.func11, Tryd.ntmps11
  go_upto_region 1 with (fail)
  generalize w.alloc (.cells #[.int .i64 k, .string s, .int .i64 n] 26) = W1 at *
  obtain ⟨G, hG⟩ : ∃ G, G = w.heap.size := ⟨_, rfl⟩
  rw [← hG] at HX0 ⊢
  have HG := Lib.hid hG
  clear hG
  have y0 : W1.cell? ⟨G, 0, none⟩ = some (.int .i64 k) := cellC HX0.out 0
  have y1 : W1.cell? ⟨G, 1, none⟩ = some (.string s) := cellC HX0.out 1
  have y2 : W1.cell? ⟨G, 2, none⟩ = some (.int .i64 n) := cellC HX0.out 2
  have HG1 := Lib.hid (HGD.out W1 HX1.out)
  go_wp2_with fail
  refine HG1.out.mono ?_
  rintro e w2 ⟨⟨b, rfl, hb⟩, hB⟩
  have HB2 := Lib.hid hB
  have HX2 := Lib.hid (HX1.out.below hB (Nat.le_refl _))
  have HBF := Lib.hid (HB0.out.trans (hB.mono HB0.out.size))
  have hx2 := (hB.block G (blkLt HX0.out)).trans HX0.out
  have z0 : w2.cell? ⟨G, 0, none⟩ = some (.int .i64 k) := cellC hx2 0
  have z1 : w2.cell? ⟨G, 1, none⟩ = some (.string s) := cellC hx2 1
  have z2 : w2.cell? ⟨G, 2, none⟩ = some (.int .i64 n) := cellC hx2 2
  clear hB y0 y1 y2 HG1 hx2 HGD
  cases b with
  | false =>
    have HN : Hid (¬ GoodO ⟨k, nm, n⟩) := Lib.hid (fun h => by have := hb.2 h; cases this)
    clear hb
    go_wp2_with fail
    go_ret
    exact ⟨⟨[], rfl, fun h => absurd h HN.out, fun _ => rfl⟩, HBF.out⟩
  | true =>
    have hgo : GoodO ⟨k, nm, n⟩ := hb.1 rfl
    have HGO := Lib.hid hgo
    obtain ⟨j, hj⟩ : ∃ j : Nat, k = ((j + 1 : Nat) : Int) := ⟨(k - 1).toNat, by have := hgo.1.1; simp only at this; omega⟩
    have hj20 : j < 20 := by have := hgo.1.2; simp only at this; omega
    have HL2 := Lib.hid (HLN.out j hj20 hj w2 HX2.out)
    have HT : Hid (lnC (j + 1) nm n = txtO ⟨k, nm, n⟩) := Lib.hid (by
      exact good_txt (o := ⟨k, nm, n⟩) (k := j + 1) ⟨by omega, by omega⟩ hj hgo)
    clear hb hgo hj HLN
    generalize lnC (j + 1) nm n = ln at *
    go_wp2_with fail
    refine HL2.out.mono ?_
    rintro e w3 ⟨rfl, hB⟩
    have HB3 := Lib.hid (HBF.out.trans (hB.mono HBF.out.size))
    clear hB z0 z1 z2 HL2
    go_wp2_with fail
    go_ret
    exact ⟨⟨ln, rfl, fun _ => HT.out, fun h => absurd HGO.out h⟩, HB3.out⟩

end Go.Proofs.YtdknejmhlfpdfaaDoor
