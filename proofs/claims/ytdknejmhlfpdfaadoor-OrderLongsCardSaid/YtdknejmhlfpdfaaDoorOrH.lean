/-
  Package order: an order's own line; Good, Text.
-/
import Derived.Test.YtdknejmhlfpdfaaDoorOrG
import Derived.Deep.RegionHeld3
namespace Go.Proofs.YtdknejmhlfpdfaaDoor
open Go.RowKit

def plC (nm : List UInt8) (n : Int) : List UInt8 := if n = -1 then nm else nm ++ 91 :: (Lib.itoa n ++ [93])
theorem catO (a b : List UInt8) : bs a ++ bs b = bs (a ++ b) := WideShapes.bytes_inj (by rw [ByteArray.data_append, Array.toList_append, bs_toList, bs_toList, bs_toList])
set_option maxRecDepth 100000 in
set_option maxHeartbeats 2000000 in
theorem place_calls (k : Int) (nm : List UInt8) (n : Int) (hn : i64 n) (hl : nm.length ≤ 1000) (w : World) (hT : TX w) :
    Calls Tryd.prog 22 #[.agg #[.int .i64 k, .string (bs nm), .int .i64 n]] w fun e w' => e = .returned (.string (bs (plC nm n))) ∧ Below w.heap.size w w' := by
  have HB0 := Lib.hid ((Below.refl w.heap.size w).alloc (Nat.le_refl _) (.cells #[.int .i64 k, .string (bs nm), .int .i64 n] 26))
  by_cases h : n = -1
  · subst h
    have HP : Hid (plC nm (-1) = nm) := Lib.hid (if_pos rfl)
    rw [HP.out]
    generalize bs nm = s at *
    go_enter Tryd.func22, Tryd.ntmps22
    go_wp2
    go_ret
    exact ⟨rfl, HB0.out⟩
  · have hq : (n == -1) = false := beq_eq_false_iff_ne.2 h
    have HLB : Hid (bs nm ++ (⟨#[91]⟩ : ByteArray) ++ bs (Lib.itoa n) ++ (⟨#[93]⟩ : ByteArray) = bs (plC nm n)) := Lib.hid (by
      rw [show (⟨#[91]⟩ : ByteArray) = bs [91] from rfl, show (⟨#[93]⟩ : ByteArray) = bs [93] from rfl]
      simp only [catO]
      congr 1
      unfold plC
      rw [if_neg h]
      simp)
    have hs1 : (bs nm).size ≤ 1000 := by rw [bs_size]; exact hl
    have hs2 : (bs (Lib.itoa n)).size ≤ 21 := by rw [bs_size]; exact itoa_len hn
    have HI := Lib.hid (fun W (hW : TX W) => itoa_calls n hn W hW)
    have HX := Lib.hid (heapOne w #[.int .i64 k, .string (bs nm), .int .i64 n] 26)
    have HTW := Lib.hid (hT.below HB0.out (Nat.le_refl _))
    clear hT h
    generalize bs nm = s at *
    generalize bs (Lib.itoa n) = d at *
    generalize bs (plC nm n) = r at *
    have g1 : (9223372036854775807 < s.size + 1) = False := eq_false (by omega)
    have g2 : (9223372036854775807 < s.size + 1 + d.size) = False := eq_false (by omega)
    have g3 : (9223372036854775807 < s.size + 1 + d.size + 1) = False := eq_false (by omega)
    clear hs1 hs2
    go_enter Tryd.func22, Tryd.ntmps22
    go_upto_region 3 with (fail)
    generalize w.alloc (.cells #[.int .i64 k, .string s, .int .i64 n] 26) = W1 at *
    obtain ⟨G, hG⟩ : ∃ G, G = w.heap.size := ⟨_, rfl⟩
    rw [← hG] at HX HB0 ⊢
    have HG := Lib.hid hG
    clear hG
    have y1 : W1.drew.cell? ⟨G, 1, none⟩ = some (.string s) := cellC HX.out 1
    have y2 : W1.drew.cell? ⟨G, 2, none⟩ = some (.int .i64 n) := cellC HX.out 2
    have HK : Hid (Below W1.heap.size W1 W1.drew) := Lib.hid (below_drewC (Below.refl _ _) 1)
    have HI1 := Lib.hid (HI.out W1.drew (HTW.out.below HK.out (Nat.le_refl _)))
    go_region_held3 (fun w' => w'.cell? ⟨G, 1, none⟩ = some (.string s) ∧ w'.cell? ⟨G, 2, none⟩ = some (.int .i64 n))
      (with_reducible exact ⟨y1, y2⟩)
      (first | (go_at_call 21; ((with_reducible refine HI1.out.mono ?_)); rintro e w3 ⟨rfl, hb⟩; have HK := Lib.hid (HK.out.trans (hb.mono HK.out.size)); have k1 := (HK.out.block _ (blkLt HX.out)).trans HX.out; have y1 : w3.cell? ⟨G, 1, none⟩ = some (.string s) := cellC k1 1; have y2 : w3.cell? ⟨G, 2, none⟩ = some (.int .i64 n) := cellC k1 2; clear k1 hb))
    rw [HLB.out]
    go_wp2_with fail
    go_ret
    rw [← HG.out]
    exact ⟨rfl, HB0.out.trans (HK.out.mono (by rw [HG.out]; exact HB0.out.size))⟩
/-- The line of an order of a kind that there is. -/
def lnC (k : Nat) (nm : List UInt8) (n : Int) : List UInt8 := if bhK k = 0 then kwB k else if bhK k = 1 then kwB k ++ 32 :: Lib.itoa n else kwB k ++ 32 :: plC nm n
theorem kwB_len (k : Nat) (h : k ≤ 20) : (kwB k).length ≤ 7 := (kw_word ⟨k, by omega⟩).2.1
set_option maxRecDepth 100000 in
set_option maxHeartbeats 4000000 in
theorem line_calls (k : Int) (j : Nat) (hj : j < 20) (hk : k = ((j + 1 : Nat) : Int)) (nm : List UInt8) (n : Int) (hn : i64 n) (hl : nm.length ≤ 1000) (w : World) (hX : XO w) :
    Calls Tryd.prog 15 #[.agg #[.int .i64 k, .string (bs nm), .int .i64 n]] w fun e w' => e = .returned (.string (bs (lnC (j + 1) nm n))) ∧ Below w.heap.size w w' := by
  have hB0 := (Below.refl w.heap.size w).alloc (Nat.le_refl _) (.cells #[.int .i64 k, .string (bs nm), .int .i64 n] 26)
  have hX1 := hX.below hB0 (Nat.le_refl _)
  have HB0 := Lib.hid hB0
  have HX0 := Lib.hid (heapOne w #[.int .i64 k, .string (bs nm), .int .i64 n] 26)
  have HX1 := Lib.hid hX1
  have hw1 : IntKind.i64.wrap (k - 1) = (j : Int) := by rw [hk, show ((j + 1 : Nat) : Int) - 1 = (j : Int) by omega]; exact wrap_small _ (by omega) (by omega)
  have hsk : (bs (kwB (j + 1))).size ≤ 7 := by rw [bs_size]; exact kwB_len _ (by omega)
  have hsn : (bs nm).size ≤ 1000 := by rw [bs_size]; exact hl
  have hsi : (bs (Lib.itoa n)).size ≤ 21 := by rw [bs_size]; exact itoa_len hn
  have hsp : (bs (plC nm n)).size ≤ 1030 := by
    rw [bs_size]
    unfold plC
    have := itoa_len hn
    split
    · omega
    · simp only [List.length_append, List.length_cons, List.length_nil]; omega
  have HI := Lib.hid (fun W (hW : TX W) => itoa_calls n hn W hW)
  have HP := Lib.hid (fun W (hW : TX W) => place_calls k nm n hn hl W hW)
  have HL0 : Hid (bhK (j + 1) = 0 → bs (kwB (j + 1)) = bs (lnC (j + 1) nm n)) := Lib.hid (fun h => by unfold lnC; rw [if_pos h])
  have HL1 : Hid (bhK (j + 1) = 1 → bs (kwB (j + 1)) ++ (⟨#[32]⟩ : ByteArray) ++ bs (Lib.itoa n) = bs (lnC (j + 1) nm n)) := Lib.hid (fun h => by
    unfold lnC
    rw [if_neg (by omega), if_pos h, show (⟨#[32]⟩ : ByteArray) = bs [32] from rfl]
    simp only [catO]
    congr 1
    simp)
  have HL2 : Hid (bhK (j + 1) = 2 → bs (kwB (j + 1)) ++ (⟨#[32]⟩ : ByteArray) ++ bs (plC nm n) = bs (lnC (j + 1) nm n)) := Lib.hid (fun h => by
    unfold lnC
    rw [if_neg (by omega), if_neg (by omega), show (⟨#[32]⟩ : ByteArray) = bs [32] from rfl]
    simp only [catO]
    congr 1
    simp)
  have HC := Lib.hid (hX1.sh j hj)
  have hb3 : bhK (j + 1) = 0 ∨ bhK (j + 1) = 1 ∨ bhK (j + 1) = 2 := by
    unfold bhK
    split
    · exact .inl rfl
    · split
      · exact .inr (.inl rfl)
      · exact .inr (.inr rfl)
  clear hX hX1 hB0 hk
  generalize bs (kwB (j + 1)) = kws at *
  generalize bs nm = s at *
  generalize bs (Lib.itoa n) = d at *
  generalize bs (plC nm n) = pl at *
  generalize bs (lnC (j + 1) nm n) = r at *
  generalize bhK (j + 1) = bh at *
  go_enter Tryd.func15, Tryd.ntmps15
  go_upto_region 1 with (fail)
  generalize w.alloc (.cells #[.int .i64 k, .string s, .int .i64 n] 26) = W1 at *
  obtain ⟨G, hG⟩ : ∃ G, G = w.heap.size := ⟨_, rfl⟩
  rw [← hG] at HX0 ⊢
  have HG := Lib.hid hG
  clear hG
  have c0 := HC.out.1
  have c1 := HC.out.2
  have y0 : W1.cell? ⟨G, 0, none⟩ = some (.int .i64 k) := cellC HX0.out 0
  go_upto_region 2 with (fail)
  have HB1 := Lib.hid ((Below.refl W1.heap.size W1).alloc (Nat.le_refl _) (.cells #[.string kws, .int .i64 (bh : Nat)] 35))
  have HX2 := Lib.hid (heapOne W1 #[.string kws, .int .i64 (bh : Nat)] 35)
  clear c0 c1 y0
  generalize hW2 : W1.alloc (.cells #[.string kws, .int .i64 (bh : Nat)] 35) = W2 at *
  obtain ⟨G2, hG2⟩ : ∃ G2, G2 = W1.heap.size := ⟨_, rfl⟩
  rw [← hG2] at HX2 ⊢
  have HG2 := Lib.hid hG2
  have H0 : Hid (W2.heap[G]? = some (.cells #[.int .i64 k, .string s, .int .i64 n] 26 (0, 0))) := Lib.hid ((HB1.out.block G (by rw [← HG2.out] at *; exact hG2 ▸ blkLt HX0.out)).trans HX0.out)
  clear hG2 hW2
  have HBF : Hid (Below w.heap.size w W2) := Lib.hid (HB0.out.trans (HB1.out.mono HB0.out.size))
  have x0 : W2.cell? ⟨G2, 0, none⟩ = some (.string kws) := cellC HX2.out 0
  have x1 : W2.cell? ⟨G2, 1, none⟩ = some (.int .i64 (bh : Nat)) := cellC HX2.out 1
  rcases hb3 with hb | hb | hb
  · subst hb
    have HE := Lib.hid (HL0.out rfl)
    clear HL0 HL1 HL2 HC
    go_wp2_with fail
    go_ret
    exact ⟨ret_str HE.out, HBF.out⟩
  · subst hb
    have HE := Lib.hid (HL1.out rfl)
    clear HL0 HL1 HL2 HC
    have g1 : (9223372036854775807 < kws.size + 1) = False := eq_false (by omega)
    have g2 : (9223372036854775807 < kws.size + 1 + d.size) = False := eq_false (by omega)
    go_upto_region 4 with (fail)
    clear x0 x1
    have x0 : W2.drew.cell? ⟨G2, 0, none⟩ = some (.string kws) := cellC HX2.out 0
    have y2 : W2.drew.cell? ⟨G, 2, none⟩ = some (.int .i64 n) := cellC H0.out 2
    have HK : Hid (Below W2.heap.size W2 W2.drew) := Lib.hid (below_drewC (Below.refl _ _) 1)
    have HI1 := Lib.hid (HI.out W2.drew ((HX1.out.below HB1.out (Nat.le_refl _)).below HK.out (Nat.le_refl _)).tx)
    clear HI HP hsk hsn hsi hsp
    go_region_held3 (fun w' => w'.cell? ⟨G2, 0, none⟩ = some (.string kws) ∧ w'.cell? ⟨G, 2, none⟩ = some (.int .i64 n))
      (with_reducible exact ⟨x0, y2⟩)
      (first | (go_at_call 21; ((with_reducible refine HI1.out.mono ?_)); rintro e w3 ⟨rfl, hb⟩; have HK := Lib.hid (HK.out.trans (hb.mono HK.out.size)); have k1 := (HK.out.block _ (blkLt HX2.out)).trans HX2.out; have k2 := (HK.out.block _ (blkLt H0.out)).trans H0.out; have x0 : w3.cell? ⟨G2, 0, none⟩ = some (.string kws) := cellC k1 0; have y2 : w3.cell? ⟨G, 2, none⟩ = some (.int .i64 n) := cellC k2 2; clear k1 k2 hb))
    rw [HE.out]
    go_wp2_with fail
    go_ret
    exact ⟨rfl, HBF.out.trans (HK.out.mono HBF.out.size)⟩
  · subst hb
    have HE := Lib.hid (HL2.out rfl)
    clear HL0 HL1 HL2 HC
    have g1 : (9223372036854775807 < kws.size + 1) = False := eq_false (by omega)
    have g2 : (9223372036854775807 < kws.size + 1 + pl.size) = False := eq_false (by omega)
    go_upto_region 6 with (fail)
    clear x0 x1
    have x0 : W2.drew.cell? ⟨G2, 0, none⟩ = some (.string kws) := cellC HX2.out 0
    have y0 : W2.drew.cell? ⟨G, 0, none⟩ = some (.int .i64 k) := cellC H0.out 0
    have y1 : W2.drew.cell? ⟨G, 1, none⟩ = some (.string s) := cellC H0.out 1
    have y2 : W2.drew.cell? ⟨G, 2, none⟩ = some (.int .i64 n) := cellC H0.out 2
    have HK : Hid (Below W2.heap.size W2 W2.drew) := Lib.hid (below_drewC (Below.refl _ _) 1)
    have HI1 := Lib.hid (HP.out W2.drew ((HX1.out.below HB1.out (Nat.le_refl _)).below HK.out (Nat.le_refl _)).tx)
    clear HI HP hsk hsn hsi hsp
    go_region_held3 (fun w' => w'.cell? ⟨G2, 0, none⟩ = some (.string kws) ∧ w'.cell? ⟨G, 0, none⟩ = some (.int .i64 k) ∧ w'.cell? ⟨G, 1, none⟩ = some (.string s) ∧ w'.cell? ⟨G, 2, none⟩ = some (.int .i64 n))
      (with_reducible exact ⟨x0, y0, y1, y2⟩)
      (first | (go_at_call 22; ((with_reducible refine HI1.out.mono ?_)); rintro e w3 ⟨rfl, hb⟩; have HK := Lib.hid (HK.out.trans (hb.mono HK.out.size)); have k1 := (HK.out.block _ (blkLt HX2.out)).trans HX2.out; have k2 := (HK.out.block _ (blkLt H0.out)).trans H0.out; have x0 : w3.cell? ⟨G2, 0, none⟩ = some (.string kws) := cellC k1 0; have y0 : w3.cell? ⟨G, 0, none⟩ = some (.int .i64 k) := cellC k2 0; have y1 : w3.cell? ⟨G, 1, none⟩ = some (.string s) := cellC k2 1; have y2 : w3.cell? ⟨G, 2, none⟩ = some (.int .i64 n) := cellC k2 2; clear k1 k2 hb))
    rw [HE.out]
    go_wp2_with fail
    go_ret
    exact ⟨rfl, HBF.out.trans (HK.out.mono HBF.out.size)⟩

end Go.Proofs.YtdknejmhlfpdfaaDoor
