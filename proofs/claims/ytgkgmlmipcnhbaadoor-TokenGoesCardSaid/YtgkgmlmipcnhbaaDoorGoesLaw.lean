/-
  The statement TokenGoes, gone through.
-/
import Derived.Test.YtgkgmlmipcnhbaaDoorSpansLaw
import Derived.IntWalk
namespace Go.Proofs.YtgkgmlmipcnhbaaDoor
open Go.RowKit

theorem wf_u8 {n : Int} (h : (Lit.int .u8 n).wf = true) : 0 ≤ n ∧ n < 256 := by
  have e1 : IntKind.u8.min = 0 := rfl
  have e2 : IntKind.u8.max = 255 := rfl
  simp [Lit.wf, e1, e2] at h
  omega
/-- So many line ends. -/
def nls (j : Nat) : ByteArray := bs (List.replicate j 10)
theorem nls_size (j : Nat) : (nls j).size = j := by unfold nls; rw [bs_size, List.length_replicate]
theorem bs_append (a b : ByteArray) : (a ++ b).data.toList = a.data.toList ++ b.data.toList := by simp
theorem nls_succ (j : Nat) : nls j ++ ⟨#[10]⟩ = nls (j + 1) := by
  apply bs_eq.2
  rw [bs_append]
  unfold nls
  rw [bs_toList, List.replicate_succ']
theorem nls_toks (a0 : ByteArray) (j : Nat) : toks (nls j ++ a0).data.toList 0 = ((toks a0.data.toList 0).1.map (shift j), (toks a0.data.toList 0).2.map (j + ·)) := by
  rw [bs_append]
  unfold nls
  rw [bs_toList]
  have := toks_blanks (List.replicate j 10) a0.data.toList (fun c hc => by rw [(List.mem_replicate.1 hc).2]; decide)
  rwa [List.length_replicate] at this

set_option maxRecDepth 100000 in
set_option maxHeartbeats 2000000 in
/-- TokenGoes answers true, and leaves what there was. -/
theorem goes_walk (a0 : ByteArray) (a1 : Int) (w1 : (Lit.int .u8 a1).wf = true) (w : World) (hT : Tabs w) :
    Calls Tryd.prog 9 #[.string a0, .int .u8 a1] w fun e w' => e = .returned (.bool true) ∧ Below w.heap.size w w' := by
  by_cases hs : a0.size ≤ 400
  · have hs0 : decide ((400 : Int) < (a0.size : Int)) = false := by simp; omega
    obtain ⟨hu0, hu1⟩ := wf_u8 w1
    clear w1
    obtain ⟨n, rfl⟩ := Int.eq_ofNat_of_zero_le hu0
    have HT := Lib.hid hT
    clear hT
    have hlen := toks_len a0
    have HA := Lib.hid (fun W hW => all_calls a0 (by omega) W hW)
    go_enter Tryd.func9, Tryd.ntmps9
    go_wp2_with fail
    refine (awake_calls _ HT.out).mono ?_
    rintro e w1 ⟨rfl, hB1⟩
    have HT1 := Lib.hid (HT.out.below hB1 HT.out.2.2)
    go_wp2_with fail
    refine (HA.out _ HT1.out).mono ?_
    rintro e w2 ⟨hB2, h2⟩
    have hB12 := hB1.trans (hB2.mono hB1.size)
    clear hB1 hB2
    rcases h2 with ⟨p, hp, rfl⟩ | ⟨hp, A, c, rfl, ht⟩
    · clear hp
      go_wp2
      go_ret
      exact ⟨rfl, hB12⟩
    · have hall : toks a0.data.toList 0 = ((toks a0.data.toList 0).1, none) := by rw [← hp]
      generalize (toks a0.data.toList 0).1 = xs at hlen ht hall ⊢
      have HALL := Lib.hid hall
      have HTK := Lib.hid ht
      clear hall ht hp HT1 HA
      have hz2 := hB12.size
      have HT2 := Lib.hid (HT.out.below hB12 HT.out.2.2)
      have hw2 : 2 ≤ w2.heap.size := HT2.out.2.2
      go_wp2
      go_loopw [8, 37] (fun v a wr => ∃ i k : Nat, a = .int .i64 i ∧ v = .int .i64 k ∧ GoI a0.data.toList xs i k ∧ Below w2.heap.size w2 wr) (fun _ a _ => xs.length - (intOf a).toNat)
      case atStart => exact ⟨0, 0, rfl, rfl, goI_start _ _ HALL.out, Below.refl _ _⟩
      case round =>
        obtain ⟨i, k, rfl, rfl, hgo, hB⟩ := hrel
        have HGO := Lib.hid hgo
        have hgo1 := hgo.1
        have hgo2 := hgo.2.1
        rw [sizeL] at hgo2
        clear hgo
        have hbs := hB.size
        by_cases hlt : i < xs.length
        · obtain ⟨s1, s2, s3, s4, s5, s6, s7, s8, s9, s10, s11, s12⟩ := goI_step _ _ _ _ HGO.out hlt
          obtain ⟨b, off, rfl, hbl, hxl, c0, c1, c2⟩ := (HTK.out.below hB (Nat.le_refl _)).get i hlt
          have hnx := fun W hW => next_calls a0 (by omega) k hgo2 W hW
          rw [s1, s2] at hnx
          have HNX := Lib.hid hnx
          have S12 := Lib.hid s12
          clear s1 s2 s3 s4 s5 s6 s7 s8 s9 s10 s11 hnx s12
          generalize hgx : xs[i] = x at c0 c1 c2 HNX S12
          clear hgx
          obtain ⟨kd, lo, hi'⟩ := x
          unfold tokV badC at HNX
          dsimp only at c0 c1 c2 HNX S12
          rw [if_neg (by simp)] at HNX
          have hi0 : (0 : Int) ≤ (i : Int) := by omega
          have hi1 : (i : Int) < (xs.length : Int) := by omega
          have hBa := hB.alloc hbs (.cells #[.int .i64 (kd : Int), .int .i64 (lo : Int), .int .i64 (hi' : Int)] 35)
          have HTa := Lib.hid (HT2.out.below hBa hw2)
          go_wp2_with fail
          refine (HNX.out _ HTa.out).mono ?_
          rintro e w3 ⟨rfl, hB3⟩
          have e0 : w3.cell? ⟨wr.heap.size, 0, none⟩ = some (.int .i64 (kd : Int)) := by rw [hB3.cell (p := ⟨wr.heap.size, 0, none⟩) (by simp)]; simp
          have e1 : w3.cell? ⟨wr.heap.size, 1, none⟩ = some (.int .i64 (lo : Int)) := by rw [hB3.cell (p := ⟨wr.heap.size, 1, none⟩) (by simp)]; simp
          have e2 : w3.cell? ⟨wr.heap.size, 2, none⟩ = some (.int .i64 (hi' : Int)) := by rw [hB3.cell (p := ⟨wr.heap.size, 2, none⟩) (by simp)]; simp
          have hz3 : wr.heap.size < w3.heap.size := by have := hB3.size; simp at this; omega
          have hB4 := hBa.trans (hB3.mono hBa.size)
          have hB5 := hB4.alloc hB4.size (.cells #[.int .i64 (kd : Int), .int .i64 (lo : Int), .int .i64 (hi' : Int)] 35)
          clear hBa hB3 hB4
          go_wp2
          go_roundw
          case rel => exact ⟨i + 1, _, by go_num, rfl, S12.out, hB5⟩
          case measure => simp [intOf]; omega
        · obtain rfl : i = xs.length := by omega
          have HTK4 := Lib.hid (HTK.out.below hB (Nat.le_refl _) |>.mono hbs)
          have HT4 := Lib.hid (HT2.out.below hB hw2)
          have hB14 := hB12.trans (hB.mono hz2)
          clear HGO hB HTK HT2
          have hm : n % 20 < 20 := Nat.mod_lt _ (by omega)
          have em : ((n : Int) % 20) = ((n % 20 : Nat) : Int) := by simp
          generalize n % 20 = m at hm em
          have HEM := Lib.hid em
          clear em
          go_wp2
          rw [HEM.out]
          go_loop [13, 61] (fun v a => ∃ j : Nat, j ≤ m ∧ a = .int .i64 j ∧ v = .string (nls j)) (fun _ a => m - (intOf a).toNat)
          case atStart => exact ⟨0, by omega, rfl, rfl⟩
          case round =>
            obtain ⟨j, hj, rfl, rfl⟩ := hrel
            by_cases hjl : j < m
            · have hns := nls_size j
              have hvs : (9223372036854775807 < (nls j).size + (⟨#[10]⟩ : ByteArray).size) = False := eq_false (by rw [hns, show (⟨#[10]⟩ : ByteArray).size = 1 from rfl]; omega)
              have hvs2 : (9223372036854775807 < (nls j).size + 1) = False := eq_false (by rw [hns]; omega)
              have HNS := Lib.hid (nls_succ j)
              clear hns
              go_wp2
              go_round
              case rel => exact ⟨j + 1, by omega, by go_num, by rw [← HNS.out]⟩
              case measure => simp [intOf]; omega
            · obtain rfl : j = m := by omega
              have hns := nls_size j
              have hsz : (nls j ++ a0).size = j + a0.size := by simp [hns]
              have HAJ := Lib.hid (fun W hW => all_calls (nls j ++ a0) (by omega) W hW)
              have HTJ : Hid ((toks (nls j ++ a0).data.toList 0) = (xs.map (shift j), none)) := Lib.hid (by rw [nls_toks, HALL.out]; rfl)
              have hvs : (9223372036854775807 < (nls j).size + a0.size) = False := eq_false (by omega)
              have HNS := Lib.hid hns
              have HSZ := Lib.hid hsz
              clear hns hsz
              go_wp2_with fail
              refine (HAJ.out _ HT4.out).mono ?_
              rintro e w5 ⟨hB5, h5⟩
              rw [HTJ.out] at h5
              rcases h5 with ⟨p, hp, _⟩ | ⟨_, A2, c2, rfl, ht5⟩
              · cases hp
              have hxl : (xs.map (shift j)).length = xs.length := by simp
              rw [hxl] at ht5 ⊢
              have HX5 := Lib.hid ht5
              have HTK5 := Lib.hid (HTK4.out.below hB5 (Nat.le_refl _) |>.mono hB5.size)
              have hB15 := hB14.trans (hB5.mono hB14.size)
              have hz5 := hB5.size
              clear ht5 hxl hB5 HAJ HTJ hvs
              go_wp2
              go_loopw [85] (fun a wr => ∃ i : Nat, i ≤ xs.length ∧ a = .int .i64 i ∧ Below w5.heap.size w5 wr) (fun a _ => xs.length - (intOf a).toNat)
              case atStart => exact ⟨0, Nat.zero_le _, rfl, Below.refl _ _⟩
              case round =>
                obtain ⟨i, hi, rfl, hB⟩ := hrel
                have hbs6 := hB.size
                by_cases hil : i < xs.length
                · obtain ⟨b, off, rfl, hbl, hxl, c0, c1, c2⟩ := (HTK5.out.below hB (Nat.le_refl _)).get i hil
                  obtain ⟨b2, off2, rfl, hbl2, hxl2, d0, d1, d2⟩ := (HX5.out.below hB (Nat.le_refl _)).get i hil
                  rw [List.getElem_map] at d0 d1 d2
                  have hgd := (goods a0.data.toList xs HALL.out i hil).2
                  have hgd1 := (goods a0.data.toList xs HALL.out i hil).1
                  rw [sizeL] at hgd
                  generalize hgx : xs[i] = x at c0 c1 c2 d0 d1 d2 hgd hgd1
                  clear hgx
                  obtain ⟨kd, lo, hi'⟩ := x
                  unfold shift at d0 d1 d2
                  dsimp only at c0 c1 c2 d0 d1 d2 hgd hgd1
                  have hi0 : (0 : Int) ≤ (i : Int) := by omega
                  have hi1 : (i : Int) < (xs.length : Int) := by omega
                  have hq1 : b < wr.heap.size := by omega
                  have hq2 : b2 < wr.heap.size := by omega
                  rw [show ((j + lo : Nat) : Int) = (lo : Int) + (j : Int) from by omega] at d1
                  rw [show ((j + hi' : Nat) : Int) = (hi' : Int) + (j : Int) from by omega] at d2
                  have HB7 := Lib.hid (fun n => below_drewN' (hB.alloc hbs6 (.cells #[.int .i64 (kd : Int), .int .i64 ((lo : Int) + (j : Int)), .int .i64 ((hi' : Int) + (j : Int))] 35)) n)
                  have q1 : IntKind.i64.wrap ((lo : Int) + (j : Int)) = (lo : Int) + (j : Int) := IntWalk.i64_in _ (by omega)
                  have q2 : IntKind.i64.wrap ((hi' : Int) + (j : Int)) = (hi' : Int) + (j : Int) := IntWalk.i64_in _ (by omega)
                  have hns := HNS.out
                  go_wp2_with fail
                  go_quiet (fail)
                  clear q1 q2 hns
                  go_wp2
                  go_roundw
                  case rel => exact ⟨i + 1, by omega, by go_num, HB7.out _⟩
                  case measure => simp [intOf]; omega
                · obtain rfl : i = xs.length := by omega
                  have hB8 := hB15.trans (hB.mono hB15.size)
                  go_wp2
                  go_ret
                  exact ⟨rfl, hB8⟩
  · have hs' : 400 < a0.size := by omega
    go_enter Tryd.func9, Tryd.ntmps9
    go_wp2_with fail
    refine (awake_calls _ hT).mono ?_
    rintro e w1 ⟨rfl, hB1⟩
    have hT1 := Lib.hid (hT.below hB1 hT.2.2)
    go_wp2_with fail
    refine (awake_calls _ hT1.out).mono ?_
    rintro e w2 ⟨rfl, hB2⟩
    go_wp2
    go_ret
    exact ⟨rfl, hB1.trans (hB2.mono hB1.size)⟩

end Go.Proofs.YtgkgmlmipcnhbaaDoor
