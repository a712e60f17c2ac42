/-
  rewindref04.Same: two programs in memory that are one.
-/
import Derived.BigRegion
import Derived.RegionTactic
import Derived.BigQuiet
import Derived.Test.YtdeflloidhbpmaaGreatDoorK24
import Derived.Test.YtdeflloidhbpmaaGreatDoorK48
namespace Go.Proofs.YtdeflloidhbpmaaGreatDoor
open Go.RowKit

theorem cell_blk {w : World} {g : Nat} {a : Array Value} {t : TypeId} {fr : Nat × Nat} (h : w.heap[g]? = some (.cells a t fr)) (o : Nat) : w.cell? ⟨g, o, none⟩ = a[o]? := by simp [World.cell?, h]
theorem two_a (W : World) (cs ds : Array Value) (t u : TypeId) : ((W.alloc (.cells cs t)).alloc (.cells ds u)).drew.heap[W.heap.size]? = some (.cells cs t (0, 0)) := by
  show ((W.alloc (.cells cs t)).alloc (.cells ds u)).heap[W.heap.size]? = _
  rw [Below.heap_alloc _ _ _ (by simp)]
  exact heap_one W cs t
theorem two_b (W : World) (cs ds : Array Value) (t u : TypeId) : ((W.alloc (.cells cs t)).alloc (.cells ds u)).drew.heap[W.heap.size + 1]? = some (.cells ds u (0, 0)) := heap_two W _ ds u
theorem TrIn.belowI {L : Nat → Prop} {w w' : World} {v : Value} {s : Sg} (h : TrIn L w v s) (hB : Below w.heap.size w w') : TrIn L w' v s := h.keep hB.size (fun k hk _ => hB.block k hk) fun _ h => h
/-- Two programs' values are kept in two boxes. -/
def TwoBox (w wr : World) (a b : Array Value) : Prop := Below w.heap.size w wr ∧ wr.heap[w.heap.size]? = some (.cells a 27) ∧ wr.heap[w.heap.size + 1]? = some (.cells b 27)
theorem TwoBox.below {w wr w2 : World} {a b : Array Value} (h : TwoBox w wr a b) (hB : Below wr.heap.size wr w2) : TwoBox w w2 a b := by
  obtain ⟨h1, h2, h3⟩ := h
  exact ⟨h1.trans (hB.mono h1.size), (hB.block _ (blk_lt h2)).trans h2, (hB.block _ (blk_lt h3)).trans h3⟩
theorem twoBox_start (w : World) (a b : Array Value) : TwoBox w ((w.alloc (.cells a 27)).alloc (.cells b 27)) a b := by
  have hs : (w.alloc (.cells a 27)).heap.size = w.heap.size + 1 := by simp
  refine ⟨((Below.refl _ w).alloc (Nat.le_refl _) _).alloc (by rw [hs]; omega) _, ?_, ?_⟩
  · rw [Below.heap_alloc _ _ _ (by rw [hs]; omega)]
    exact heap_one w a _
  · rw [← hs]
    exact heap_one _ b _

set_option maxRecDepth 100000 in
set_option maxHeartbeats 8000000 in
theorem sameT_calls (L M : Nat → Prop) (v1 v2 : Value) (s : Sg) (N : Nat) (hN : N ≤ 100000) (hlen : LenOk N s) (hx : s.ex.length ≤ 100000) (hst : s.st.length ≤ 100000) (hfn : s.fn.length ≤ 100000) (w : World) (h1 : TrIn L w v1 s) (h2 : TrIn M w v2 s) :
    Calls Tryz.prog 14 #[v1, v2] w fun e w' => e = .returned (.bool true) ∧ Below w.heap.size w w' := by
  obtain ⟨A1, c1, A2, c2, A3, c3, rfl⟩ := h1.form
  obtain ⟨B1, d1, B2, d2, B3, d3, rfl⟩ := h2.form
  have H1 := Lib.hid h1
  have H2 := Lib.hid h2
  have HN := Lib.hid hlen
  clear h1 h2 hlen
  go_enter Tryz.func14, Tryz.ntmps14
  go_wp2
  go_loopw [43] (fun a wr => ∃ i : Nat, i ≤ s.ex.length ∧ a = .int .i64 i ∧ TwoBox w wr #[.slice A1 s.ex.length c1, .slice A2 s.st.length c2, .slice A3 s.fn.length c3] #[.slice B1 s.ex.length d1, .slice B2 s.st.length d2, .slice B3 s.fn.length d3]) (fun a _ => s.ex.length - (intOf a).toNat)
  case atStart => exact ⟨0, Nat.zero_le _, rfl, twoBox_start _ _ _⟩
  case round =>
    obtain ⟨i, hi, rfl, hW⟩ := hrel
    have HW := Lib.hid hW
    obtain ⟨hB, k0, k1⟩ := hW
    have q0 : wr.cell? ⟨w.heap.size, 0, none⟩ = some (.slice A1 s.ex.length c1) := by simp [World.cell?, k0]
    have q1 : wr.cell? ⟨w.heap.size, 1, none⟩ = some (.slice A2 s.st.length c2) := by simp [World.cell?, k0]
    have q2 : wr.cell? ⟨w.heap.size, 2, none⟩ = some (.slice A3 s.fn.length c3) := by simp [World.cell?, k0]
    have r0 : wr.cell? ⟨w.heap.size + 1, 0, none⟩ = some (.slice B1 s.ex.length d1) := by simp [World.cell?, k1]
    have r1 : wr.cell? ⟨w.heap.size + 1, 1, none⟩ = some (.slice B2 s.st.length d2) := by simp [World.cell?, k1]
    have r2 : wr.cell? ⟨w.heap.size + 1, 2, none⟩ = some (.slice B3 s.fn.length d3) := by simp [World.cell?, k1]
    have hk0 := blk_lt k0
    have hk1 := blk_lt k1
    have G1 := H1.out.belowI hB
    have G2 := H2.out.belowI hB
    clear hB k0 k1
    by_cases hlt : i < s.ex.length
    · obtain ⟨g, l, rfl, hg, hl, x0, x1, x2, x3, x4, x5, x6, x7, x8⟩ := G1.exC i hlt
      obtain ⟨g2, m, rfl, hg2, hm, y0, y1, y2, y3, y4, y5, y6, y7, y8⟩ := G2.exC i hlt
      have hlx := HN.out.ex _ (List.getElem_mem hlt)
      obtain ⟨Al, cl, rfl⟩ := hl.form
      obtain ⟨Am, cm, rfl⟩ := hm.form
      rw [intsV_len] at *
      have HL := Lib.hid hl
      have HM := Lib.hid hm
      generalize s.ex[i] = x at *
      have hi0 : (0 : Int) ≤ (i : Int) := by omega
      have hi1 : (i : Int) < (s.ex.length : Int) := by omega
      clear G1 G2 hl hm
      have hz1 : ∀ k o, k < wr.heap.size → (wr.alloc (.cells #[.int .i64 0, .int .i64 0, .int .i64 0, .int .i64 0, .string ⟨#[]⟩, .string ⟨#[]⟩, .int .i64 0, .int .i64 0, .slice none 0 0] 63)).cell? ⟨k, o, none⟩ = wr.cell? ⟨k, o, none⟩ := fun k o hk => World.cell?_of_block (a := ⟨k, o, none⟩) (Below.heap_alloc wr _ k hk)
      have hz2 : ∀ k o, k < wr.heap.size → ((wr.alloc (.cells #[.int .i64 0, .int .i64 0, .int .i64 0, .int .i64 0, .string ⟨#[]⟩, .string ⟨#[]⟩, .int .i64 0, .int .i64 0, .slice none 0 0] 63)).alloc (.cells #[.int .i64 0, .int .i64 0, .int .i64 0, .int .i64 0, .string ⟨#[]⟩, .string ⟨#[]⟩, .int .i64 0, .int .i64 0, .slice none 0 0] 63)).cell? ⟨k, o, none⟩ = wr.cell? ⟨k, o, none⟩ := fun k o hk => (World.cell?_of_block (a := ⟨k, o, none⟩) (Below.heap_alloc _ _ k (by simp; omega))).trans (hz1 k o hk)
      have et0 := (hz1 (w.heap.size) 0 hk0).trans q0
      have et1 := (hz2 (w.heap.size) 0 hk0).trans q0
      have et2 := (hz1 (w.heap.size + 1) 0 hk1).trans r0
      have et3 := (hz2 (w.heap.size + 1) 0 hk1).trans r0
      have et4 := (hz1 g (i * 9) hg).trans x0
      have et5 := (hz2 g (i * 9) hg).trans x0
      have et6 := (hz1 g (i * 9 + 1) hg).trans x1
      have et7 := (hz2 g (i * 9 + 1) hg).trans x1
      have et8 := (hz1 g (i * 9 + 2) hg).trans x2
      have et9 := (hz2 g (i * 9 + 2) hg).trans x2
      have et10 := (hz1 g (i * 9 + 3) hg).trans x3
      have et11 := (hz2 g (i * 9 + 3) hg).trans x3
      have et12 := (hz1 g (i * 9 + 4) hg).trans x4
      have et13 := (hz2 g (i * 9 + 4) hg).trans x4
      have et14 := (hz1 g (i * 9 + 5) hg).trans x5
      have et15 := (hz2 g (i * 9 + 5) hg).trans x5
      have et16 := (hz1 g (i * 9 + 6) hg).trans x6
      have et17 := (hz2 g (i * 9 + 6) hg).trans x6
      have et18 := (hz1 g (i * 9 + 7) hg).trans x7
      have et19 := (hz2 g (i * 9 + 7) hg).trans x7
      have et20 := (hz1 g (i * 9 + 8) hg).trans x8
      have et21 := (hz2 g (i * 9 + 8) hg).trans x8
      have et22 := (hz1 g2 (i * 9) hg2).trans y0
      have et23 := (hz2 g2 (i * 9) hg2).trans y0
      have et24 := (hz1 g2 (i * 9 + 1) hg2).trans y1
      have et25 := (hz2 g2 (i * 9 + 1) hg2).trans y1
      have et26 := (hz1 g2 (i * 9 + 2) hg2).trans y2
      have et27 := (hz2 g2 (i * 9 + 2) hg2).trans y2
      have et28 := (hz1 g2 (i * 9 + 3) hg2).trans y3
      have et29 := (hz2 g2 (i * 9 + 3) hg2).trans y3
      have et30 := (hz1 g2 (i * 9 + 4) hg2).trans y4
      have et31 := (hz2 g2 (i * 9 + 4) hg2).trans y4
      have et32 := (hz1 g2 (i * 9 + 5) hg2).trans y5
      have et33 := (hz2 g2 (i * 9 + 5) hg2).trans y5
      have et34 := (hz1 g2 (i * 9 + 6) hg2).trans y6
      have et35 := (hz2 g2 (i * 9 + 6) hg2).trans y6
      have et36 := (hz1 g2 (i * 9 + 7) hg2).trans y7
      have et37 := (hz2 g2 (i * 9 + 7) hg2).trans y7
      have et38 := (hz1 g2 (i * 9 + 8) hg2).trans y8
      have et39 := (hz2 g2 (i * 9 + 8) hg2).trans y8
      clear hz1 hz2
      go_wp2_with fail
      go_region
      all_goals
        go_wp2_with fail
        refine (ints_calls _ _ _ _ x.list (by omega) _ (HL.out.belowL (below_two wr _ _).drew) (HM.out.belowL (below_two wr _ _).drew)).mono ?_
        rintro e w2 ⟨rfl, hB2⟩
        have HB2 := Lib.hid ((below_two wr _ _).drew.trans (hB2.mono (by simp <;> omega)))
        clear hB2
        go_wp2
        go_roundw
        case rel => exact ⟨i + 1, by omega, by go_num, HW.out.below HB2.out⟩
        case measure => simp [intOf]; omega
    · obtain rfl : i = s.ex.length := by omega
      clear G1 G2
      go_wp2
      go_loopw [115] (fun a wr => ∃ i : Nat, i ≤ s.st.length ∧ a = .int .i64 i ∧ TwoBox w wr #[.slice A1 s.ex.length c1, .slice A2 s.st.length c2, .slice A3 s.fn.length c3] #[.slice B1 s.ex.length d1, .slice B2 s.st.length d2, .slice B3 s.fn.length d3]) (fun a _ => s.st.length - (intOf a).toNat)
      case atStart => exact ⟨0, Nat.zero_le _, rfl, HW.out⟩
      case round =>
        obtain ⟨i, hi, rfl, hW⟩ := hrel
        have HW := Lib.hid hW
        obtain ⟨hB, k0, k1⟩ := hW
        have q0 : wr.cell? ⟨w.heap.size, 0, none⟩ = some (.slice A1 s.ex.length c1) := by simp [World.cell?, k0]
        have q1 : wr.cell? ⟨w.heap.size, 1, none⟩ = some (.slice A2 s.st.length c2) := by simp [World.cell?, k0]
        have q2 : wr.cell? ⟨w.heap.size, 2, none⟩ = some (.slice A3 s.fn.length c3) := by simp [World.cell?, k0]
        have r0 : wr.cell? ⟨w.heap.size + 1, 0, none⟩ = some (.slice B1 s.ex.length d1) := by simp [World.cell?, k1]
        have r1 : wr.cell? ⟨w.heap.size + 1, 1, none⟩ = some (.slice B2 s.st.length d2) := by simp [World.cell?, k1]
        have r2 : wr.cell? ⟨w.heap.size + 1, 2, none⟩ = some (.slice B3 s.fn.length d3) := by simp [World.cell?, k1]
        have hk0 := blk_lt k0
        have hk1 := blk_lt k1
        have G1 := H1.out.belowI hB
        have G2 := H2.out.belowI hB
        clear hB k0 k1
        by_cases hlt : i < s.st.length
        · obtain ⟨g, l, l', rfl, hg, hl, hl', x0, x1, x2, x3, x4, x5, x6, x7, x8⟩ := G1.smC i hlt
          obtain ⟨g2, m, m', rfl, hg2, hm, hm', y0, y1, y2, y3, y4, y5, y6, y7, y8⟩ := G2.smC i hlt
          have hlx := HN.out.st _ (List.getElem_mem hlt)
          obtain ⟨Al, cl, rfl⟩ := hl.form
          obtain ⟨Am, cm, rfl⟩ := hm.form
          obtain ⟨Al', cl', rfl⟩ := hl'.form
          obtain ⟨Am', cm', rfl⟩ := hm'.form
          simp only [intsV_len] at *
          have HL := Lib.hid hl
          have HM := Lib.hid hm
          have HL' := Lib.hid hl'
          have HM' := Lib.hid hm'
          generalize s.st[i] = x at *
          have hi0 : (0 : Int) ≤ (i : Int) := by omega
          have hi1 : (i : Int) < (s.st.length : Int) := by omega
          clear G1 G2 hl hm hl' hm'
          have hz1 : ∀ k o, k < wr.heap.size → (wr.alloc (.cells #[.int .i64 0, .int .i64 0, .int .i64 0, .string ⟨#[]⟩, .int .i64 0, .int .i64 0, .int .i64 0, .slice none 0 0, .slice none 0 0] 42)).cell? ⟨k, o, none⟩ = wr.cell? ⟨k, o, none⟩ := fun k o hk => World.cell?_of_block (a := ⟨k, o, none⟩) (Below.heap_alloc wr _ k hk)
          have hz2 : ∀ k o, k < wr.heap.size → ((wr.alloc (.cells #[.int .i64 0, .int .i64 0, .int .i64 0, .string ⟨#[]⟩, .int .i64 0, .int .i64 0, .int .i64 0, .slice none 0 0, .slice none 0 0] 42)).alloc (.cells #[.int .i64 0, .int .i64 0, .int .i64 0, .string ⟨#[]⟩, .int .i64 0, .int .i64 0, .int .i64 0, .slice none 0 0, .slice none 0 0] 42)).cell? ⟨k, o, none⟩ = wr.cell? ⟨k, o, none⟩ := fun k o hk => (World.cell?_of_block (a := ⟨k, o, none⟩) (Below.heap_alloc _ _ k (by simp; omega))).trans (hz1 k o hk)
          have et0 := (hz1 (w.heap.size) 1 hk0).trans q1
          have et1 := (hz2 (w.heap.size) 1 hk0).trans q1
          have et2 := (hz1 (w.heap.size + 1) 1 hk1).trans r1
          have et3 := (hz2 (w.heap.size + 1) 1 hk1).trans r1
          have et4 := (hz1 g (i * 9) hg).trans x0
          have et5 := (hz2 g (i * 9) hg).trans x0
          have et6 := (hz1 g (i * 9 + 1) hg).trans x1
          have et7 := (hz2 g (i * 9 + 1) hg).trans x1
          have et8 := (hz1 g (i * 9 + 2) hg).trans x2
          have et9 := (hz2 g (i * 9 + 2) hg).trans x2
          have et10 := (hz1 g (i * 9 + 3) hg).trans x3
          have et11 := (hz2 g (i * 9 + 3) hg).trans x3
          have et12 := (hz1 g (i * 9 + 4) hg).trans x4
          have et13 := (hz2 g (i * 9 + 4) hg).trans x4
          have et14 := (hz1 g (i * 9 + 5) hg).trans x5
          have et15 := (hz2 g (i * 9 + 5) hg).trans x5
          have et16 := (hz1 g (i * 9 + 6) hg).trans x6
          have et17 := (hz2 g (i * 9 + 6) hg).trans x6
          have et18 := (hz1 g (i * 9 + 7) hg).trans x7
          have et19 := (hz2 g (i * 9 + 7) hg).trans x7
          have et20 := (hz1 g (i * 9 + 8) hg).trans x8
          have et21 := (hz2 g (i * 9 + 8) hg).trans x8
          have et22 := (hz1 g2 (i * 9) hg2).trans y0
          have et23 := (hz2 g2 (i * 9) hg2).trans y0
          have et24 := (hz1 g2 (i * 9 + 1) hg2).trans y1
          have et25 := (hz2 g2 (i * 9 + 1) hg2).trans y1
          have et26 := (hz1 g2 (i * 9 + 2) hg2).trans y2
          have et27 := (hz2 g2 (i * 9 + 2) hg2).trans y2
          have et28 := (hz1 g2 (i * 9 + 3) hg2).trans y3
          have et29 := (hz2 g2 (i * 9 + 3) hg2).trans y3
          have et30 := (hz1 g2 (i * 9 + 4) hg2).trans y4
          have et31 := (hz2 g2 (i * 9 + 4) hg2).trans y4
          have et32 := (hz1 g2 (i * 9 + 5) hg2).trans y5
          have et33 := (hz2 g2 (i * 9 + 5) hg2).trans y5
          have et34 := (hz1 g2 (i * 9 + 6) hg2).trans y6
          have et35 := (hz2 g2 (i * 9 + 6) hg2).trans y6
          have et36 := (hz1 g2 (i * 9 + 7) hg2).trans y7
          have et37 := (hz2 g2 (i * 9 + 7) hg2).trans y7
          have et38 := (hz1 g2 (i * 9 + 8) hg2).trans y8
          have et39 := (hz2 g2 (i * 9 + 8) hg2).trans y8
          clear hz1 hz2
          go_wp2_with fail
          go_region
          all_goals
            go_wp2_with fail
            refine (ints_calls _ _ _ _ x.thn (by omega) _ (HL.out.belowL (below_two wr _ _).drew) (HM.out.belowL (below_two wr _ _).drew)).mono ?_
            rintro e w2 ⟨rfl, hB2⟩
            have kA := (hB2.block wr.heap.size (by simp <;> omega)).trans (two_a wr _ _ _ _)
            have kB := (hB2.block (wr.heap.size + 1) (by simp <;> omega)).trans (two_b wr _ _ _ _)
            have fA := (cell_blk kA 8).trans rfl
            have fB := (cell_blk kB 8).trans rfl
            have HB2 := Lib.hid ((below_two wr _ _).drew.trans (hB2.mono (by simp <;> omega)))
            clear hB2 kA kB
            go_wp2_with fail
            refine (ints_calls _ _ _ _ x.els (by omega) _ (HL'.out.belowL HB2.out) (HM'.out.belowL HB2.out)).mono ?_
            rintro e w3 ⟨rfl, hB3⟩
            have HB3 := Lib.hid (HB2.out.trans (hB3.mono HB2.out.size))
            clear hB3
            go_wp2
            go_roundw
            case rel => exact ⟨i + 1, by omega, by go_num, HW.out.below HB3.out⟩
            case measure => simp [intOf]; omega
        · obtain rfl : i = s.st.length := by omega
          clear G1 G2
          go_wp2
          go_loopw [188] (fun a wr => ∃ i : Nat, i ≤ s.fn.length ∧ a = .int .i64 i ∧ TwoBox w wr #[.slice A1 s.ex.length c1, .slice A2 s.st.length c2, .slice A3 s.fn.length c3] #[.slice B1 s.ex.length d1, .slice B2 s.st.length d2, .slice B3 s.fn.length d3]) (fun a _ => s.fn.length - (intOf a).toNat)
          case atStart => exact ⟨0, Nat.zero_le _, rfl, HW.out⟩
          case round =>
            obtain ⟨i, hi, rfl, hW⟩ := hrel
            have HW := Lib.hid hW
            obtain ⟨hB, k0, k1⟩ := hW
            have q0 : wr.cell? ⟨w.heap.size, 0, none⟩ = some (.slice A1 s.ex.length c1) := by simp [World.cell?, k0]
            have q1 : wr.cell? ⟨w.heap.size, 1, none⟩ = some (.slice A2 s.st.length c2) := by simp [World.cell?, k0]
            have q2 : wr.cell? ⟨w.heap.size, 2, none⟩ = some (.slice A3 s.fn.length c3) := by simp [World.cell?, k0]
            have r0 : wr.cell? ⟨w.heap.size + 1, 0, none⟩ = some (.slice B1 s.ex.length d1) := by simp [World.cell?, k1]
            have r1 : wr.cell? ⟨w.heap.size + 1, 1, none⟩ = some (.slice B2 s.st.length d2) := by simp [World.cell?, k1]
            have r2 : wr.cell? ⟨w.heap.size + 1, 2, none⟩ = some (.slice B3 s.fn.length d3) := by simp [World.cell?, k1]
            have hk0 := blk_lt k0
            have hk1 := blk_lt k1
            have G1 := H1.out.belowI hB
            have G2 := H2.out.belowI hB
            clear hB k0 k1
            by_cases hlt : i < s.fn.length
            · obtain ⟨g, l, l', rfl, hg, hl, hl', x0, x1, x2, x3, x4, x5⟩ := G1.fuC i hlt
              obtain ⟨g2, m, m', rfl, hg2, hm, hm', y0, y1, y2, y3, y4, y5⟩ := G2.fuC i hlt
              have hlx := HN.out.fn _ (List.getElem_mem hlt)
              obtain ⟨Al, cl, rfl⟩ := hl.form
              obtain ⟨Am, cm, rfl⟩ := hm.form
              obtain ⟨Al', cl', rfl⟩ := hl'.form
              obtain ⟨Am', cm', rfl⟩ := hm'.form
              simp only [intsV_len, strsV_len] at *
              have HL := Lib.hid hl
              have HM := Lib.hid hm
              have HL' := Lib.hid hl'
              have HM' := Lib.hid hm'
              generalize s.fn[i] = x at *
              have hi0 : (0 : Int) ≤ (i : Int) := by omega
              have hi1 : (i : Int) < (s.fn.length : Int) := by omega
              clear G1 G2 hl hm hl' hm'
              have hz1 : ∀ k o, k < wr.heap.size → (wr.alloc (.cells #[.string ⟨#[]⟩, .int .i64 0, .int .i64 0, .slice none 0 0, .int .i64 0, .slice none 0 0] 69)).cell? ⟨k, o, none⟩ = wr.cell? ⟨k, o, none⟩ := fun k o hk => World.cell?_of_block (a := ⟨k, o, none⟩) (Below.heap_alloc wr _ k hk)
              have hz2 : ∀ k o, k < wr.heap.size → ((wr.alloc (.cells #[.string ⟨#[]⟩, .int .i64 0, .int .i64 0, .slice none 0 0, .int .i64 0, .slice none 0 0] 69)).alloc (.cells #[.string ⟨#[]⟩, .int .i64 0, .int .i64 0, .slice none 0 0, .int .i64 0, .slice none 0 0] 69)).cell? ⟨k, o, none⟩ = wr.cell? ⟨k, o, none⟩ := fun k o hk => (World.cell?_of_block (a := ⟨k, o, none⟩) (Below.heap_alloc _ _ k (by simp; omega))).trans (hz1 k o hk)
              have et0 := (hz1 (w.heap.size) 2 hk0).trans q2
              have et1 := (hz2 (w.heap.size) 2 hk0).trans q2
              have et2 := (hz1 (w.heap.size + 1) 2 hk1).trans r2
              have et3 := (hz2 (w.heap.size + 1) 2 hk1).trans r2
              have et4 := (hz1 g (i * 6) hg).trans x0
              have et5 := (hz2 g (i * 6) hg).trans x0
              have et6 := (hz1 g (i * 6 + 1) hg).trans x1
              have et7 := (hz2 g (i * 6 + 1) hg).trans x1
              have et8 := (hz1 g (i * 6 + 2) hg).trans x2
              have et9 := (hz2 g (i * 6 + 2) hg).trans x2
              have et10 := (hz1 g (i * 6 + 3) hg).trans x3
              have et11 := (hz2 g (i * 6 + 3) hg).trans x3
              have et12 := (hz1 g (i * 6 + 4) hg).trans x4
              have et13 := (hz2 g (i * 6 + 4) hg).trans x4
              have et14 := (hz1 g (i * 6 + 5) hg).trans x5
              have et15 := (hz2 g (i * 6 + 5) hg).trans x5
              have et16 := (hz1 g2 (i * 6) hg2).trans y0
              have et17 := (hz2 g2 (i * 6) hg2).trans y0
              have et18 := (hz1 g2 (i * 6 + 1) hg2).trans y1
              have et19 := (hz2 g2 (i * 6 + 1) hg2).trans y1
              have et20 := (hz1 g2 (i * 6 + 2) hg2).trans y2
              have et21 := (hz2 g2 (i * 6 + 2) hg2).trans y2
              have et22 := (hz1 g2 (i * 6 + 3) hg2).trans y3
              have et23 := (hz2 g2 (i * 6 + 3) hg2).trans y3
              have et24 := (hz1 g2 (i * 6 + 4) hg2).trans y4
              have et25 := (hz2 g2 (i * 6 + 4) hg2).trans y4
              have et26 := (hz1 g2 (i * 6 + 5) hg2).trans y5
              have et27 := (hz2 g2 (i * 6 + 5) hg2).trans y5
              clear hz1 hz2
              go_wp2_with fail
              go_region
              all_goals
                go_wp2_with fail
                refine (ints_calls _ _ _ _ x.body (by omega) _ (HL'.out.belowL (below_two wr _ _).drew) (HM'.out.belowL (below_two wr _ _).drew)).mono ?_
                rintro e w2 ⟨rfl, hB2⟩
                have kA := (hB2.block wr.heap.size (by simp <;> omega)).trans (two_a wr _ _ _ _)
                have kB := (hB2.block (wr.heap.size + 1) (by simp <;> omega)).trans (two_b wr _ _ _ _)
                have fA := (cell_blk kA 3).trans rfl
                have fB := (cell_blk kB 3).trans rfl
                have HB2 := Lib.hid ((below_two wr _ _).drew.trans (hB2.mono (by simp <;> omega)))
                have HP := Lib.hid (HL.out.belowL HB2.out)
                have HQ := Lib.hid (HM.out.belowL HB2.out)
                clear hB2 kA kB
                go_wp2
                go_loopw [240] (fun a w3 => ∃ k : Nat, k ≤ x.params.length ∧ a = .int .i64 k ∧ ∃ nq, w3 = w2.drewN nq) (fun a _ => x.params.length - (intOf a).toNat)
                case atStart => exact ⟨0, Nat.zero_le _, rfl, 0, rfl⟩
                case round =>
                  obtain ⟨k, hk, rfl, nq, rfl⟩ := hrel
                  by_cases hlk : k < x.params.length
                  · obtain ⟨gp, rfl, hgp, z0⟩ := HP.out.str k hlk
                    obtain ⟨gq, rfl, hgq, z1⟩ := HQ.out.str k hlk
                    have hj0 : (0 : Int) ≤ (k : Int) := by omega
                    have hj1 : (k : Int) < (x.params.length : Int) := by omega
                    go_wp2_with fail
                    go_quiet (fail)
                    go_wp2
                    go_roundw
                    case rel => exact ⟨k + 1, by omega, by go_num, _, rfl⟩
                    case measure => simp [intOf]; omega
                  · obtain rfl : k = x.params.length := by omega
                    go_wp2
                    go_roundw
                    case rel => exact ⟨i + 1, by omega, by go_num, HW.out.below (below_drewN HB2.out _)⟩
                    case measure => simp [intOf]; omega
            · obtain rfl : i = s.fn.length := by omega
              go_wp2
              go_ret
              exact ⟨rfl, HW.out.1⟩

end Go.Proofs.YtdeflloidhbpmaaGreatDoor
