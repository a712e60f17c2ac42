/-
  The statement TokenJoins, gone through.
-/
import Derived.Test.YtgkgmlmipcnhbaaDoorMathK
namespace Go.Proofs.YtgkgmlmipcnhbaaDoor
open Go.RowKit

set_option maxRecDepth 100000 in
set_option maxHeartbeats 4000000 in
/-- TokenJoins answers true, and leaves what there was. -/
theorem joins_walk (a0 a1 : ByteArray) (w : World) (hT : Tabs w) :
    Calls Tryd.prog 8 #[.string a0, .string a1] w fun e w' => e = .returned (.bool true) ∧ Below w.heap.size w w' := by
  by_cases hs : a0.size ≤ 400
  · have hs0 : decide ((400 : Int) < (a0.size : Int)) = false := by simp; omega
    by_cases hs2 : a1.size ≤ 100
    · have hs3 : decide ((100 : Int) < (a1.size : Int)) = false := by simp; omega
      have HT := Lib.hid hT
      clear hT
      have hlen := toks_len a0
      have HA := Lib.hid (fun W hW => all_calls a0 (by omega) W hW)
      go_enter Tryd.func8, Tryd.ntmps8
      go_wp2_with fail
      refine (awake_calls _ HT.out).mono ?_
      rintro e w1 ⟨rfl, hB1⟩
      have HT1 := Lib.hid (HT.out.below hB1 HT.out.2.2)
      go_wp2_with fail
      refine (HA.out _ HT1.out).mono ?_
      rintro e w2 ⟨hB2, h2⟩
      have hB12 := hB1.trans (hB2.mono hB1.size)
      clear hB1 hB2
      rcases h2 with ⟨p, hp, rfl⟩ | ⟨hp, A, c, rfl, ht⟩
      · clear hp
        go_wp2
        go_ret
        exact ⟨rfl, hB12⟩
      · have hall : toks a0.data.toList 0 = ((toks a0.data.toList 0).1, none) := by rw [← hp]
        generalize (toks a0.data.toList 0).1 = xs at hlen ht hall ⊢
        have HALL := Lib.hid hall
        have HTK := Lib.hid ht
        have HGD := Lib.hid (goods a0.data.toList xs hall)
        clear hall ht hp
        go_wp2_with fail
        refine (text_calls a0 (by omega) A c xs (by omega) _ HTK.out (by rw [← sizeL]; exact HGD.out)).mono ?_
        rintro e w3 ⟨A2, c2, rfl, hst, hB3⟩
        have hB13 := hB12.trans (hB3.mono hB12.size)
        have HTK3 := Lib.hid (HTK.out.below hB3 (Nat.le_refl _) |>.mono hB3.size)
        have HST3 := Lib.hid hst
        have HT3 := Lib.hid (HT.out.below hB13 HT.out.2.2)
        have hw3 : 2 ≤ w3.heap.size := HT3.out.2.2
        clear hst hB12 HTK HT HT1 HA hB3
        go_wp2
        go_loop [9, 47] (fun v a => ∃ i : Nat, i ≤ xs.length ∧ a = .int .i64 i ∧ v = .string (bs (sJoin ((xs.map (bytesOf a0.data.toList)).take i)))) (fun _ a => xs.length - (intOf a).toNat)
        case atStart => exact ⟨0, Nat.zero_le _, rfl, rfl⟩
        case round =>
          obtain ⟨i, hi, rfl, rfl⟩ := hrel
          by_cases hlt : i < xs.length
          · obtain ⟨b2, off2, rfl, hbl2, hxl2, d0⟩ := HST3.out.get i hlt
            have hsh1 := join_short a0.data.toList xs HALL.out (by rw [sizeL]; exact hlen) i
            have hsh2 := join_short a0.data.toList xs HALL.out (by rw [sizeL]; exact hlen) (i + 1)
            rw [sizeL] at hsh1 hsh2
            have hst := join_step (xs.map (bytesOf a0.data.toList)) i hxl2
            generalize hgj : sJoin ((xs.map (bytesOf a0.data.toList)).take (i + 1)) = J2 at hsh2 hst
            have HGJ := Lib.hid hgj
            clear hgj
            generalize (xs.map (bytesOf a0.data.toList))[i] = wd at hst d0
            have hi0 : (0 : Int) ≤ (i : Int) := by omega
            have hi1 : (i : Int) < (xs.length : Int) := by omega
            by_cases h0 : i = 0
            · subst h0
              rw [if_pos rfl] at hst
              have HE : Hid (J2 = wd) := Lib.hid hst
              have hwl : wd.length ≤ 801 := by rw [← hst]; omega
              have hvs : (9223372036854775807 < (bs []).size + (bs wd).size) = False := eq_false (by rw [bs_size, bs_size, List.length_nil]; omega)
              clear hst hsh1
              rw [Nat.add_zero] at d0
              rw [List.take_zero, show sJoin [] = [] from rfl]
              go_wp2
              go_round
              case rel => exact ⟨1, by omega, rfl, by rw [bs_app]; refine congrArg (fun l => Value.string (bs l)) ?_; rw [HGJ.out, HE.out]; rfl⟩
              case measure => simp [intOf]; omega
            · rw [if_neg h0] at hst
              generalize hgk : sJoin ((xs.map (bytesOf a0.data.toList)).take i) = J1 at hsh1 hst ⊢
              clear hgk
              have HE : Hid (J2 = J1 ++ 32 :: wd) := Lib.hid hst
              have hwl : J1.length + 1 + wd.length ≤ 801 := by
                have := congrArg List.length hst
                rw [List.length_append, List.length_cons] at this
                omega
              have hgt : (0 : Int) < (i : Int) := by omega
              have hz1 : (bs J1 ++ (⟨#[32]⟩ : ByteArray)).size = J1.length + 1 := by rw [← sizeL, bsA, bs_toList]; simp
              have hvs1 : (9223372036854775807 < (bs J1).size + (⟨#[32]⟩ : ByteArray).size) = False := eq_false (by rw [bs_size, show (⟨#[32]⟩ : ByteArray).size = 1 from rfl]; omega)
              have hvs1' : (9223372036854775807 < (bs J1).size + 1) = False := eq_false (by rw [bs_size]; omega)
              have hvs2 : (9223372036854775807 < (bs J1 ++ (⟨#[32]⟩ : ByteArray)).size + (bs wd).size) = False := eq_false (by rw [hz1, bs_size]; omega)
              have hvs3 : (9223372036854775807 < (bs J1).size + (⟨#[32]⟩ : ByteArray).size + (bs wd).size) = False := eq_false (by rw [bs_size, bs_size, show (⟨#[32]⟩ : ByteArray).size = 1 from rfl]; omega)
              have hvs3' : (9223372036854775807 < (bs J1).size + 1 + (bs wd).size) = False := eq_false (by rw [bs_size, bs_size]; omega)
              clear hst hz1
              go_wp2
              go_round
              case rel => exact ⟨i + 1, by omega, by go_num, by rw [show (⟨#[32]⟩ : ByteArray) = bs [32] from rfl, bs_app, bs_app]; refine congrArg (fun l => Value.string (bs l)) ?_; rw [HGJ.out, HE.out]; simp⟩
              case measure => simp [intOf]; omega
          · obtain rfl : i = xs.length := by omega
            have hjs := join_short a0.data.toList xs HALL.out (by rw [sizeL]; exact hlen) xs.length
            have htl : (xs.map (bytesOf a0.data.toList)).take xs.length = xs.map (bytesOf a0.data.toList) := List.take_of_length_le (by rw [List.length_map]; exact Nat.le_refl _)
            rw [htl, sizeL] at hjs
            rw [htl]
            obtain ⟨ms, hj1, hj2, hj3⟩ := joined a0.data.toList xs HALL.out
            generalize sJoin (xs.map (bytesOf a0.data.toList)) = J at hjs hj1 hj3 ⊢
            have HJ1 : Hid (toks (bs J).data.toList 0 = (ms, none)) := Lib.hid (by rw [bs_toList]; exact hj1)
            have HJ3 := Lib.hid hj3
            have hJz : (bs J).size ≤ 801 := by rw [bs_size]; omega
            clear hj1 hj3 hjs htl hi hlt
            rcases first_nl a1 with ⟨p, hp, hp10, hpn⟩ | hno
            · have HPN := Lib.hid hpn
              have hC := no_nl a1 p (by omega) hpn
              have hCz : (a1.extract 0 p).size ≤ 100 := by simp; omega
              have hpb : ((a1[p].toNat : Int) == 10) = true := by rw [hp10]; rfl
              clear hpn hp10
              go_wp2
              go_loop [1, 62] (fun v a => ∃ i : Nat, i ≤ p ∧ a = .int .i64 i ∧ v = .string a1) (fun _ a => p - (intOf a).toNat)
              case atStart => exact ⟨0, Nat.zero_le _, rfl, rfl⟩
              case round =>
                obtain ⟨i, hi, rfl, rfl⟩ := hrel
                have hi1 : (i : Int) < (a1.size : Int) := by omega
                have hi0 : (0 : Int) ≤ (i : Int) := by omega
                by_cases hlt : i < p
                · have hne := (bytes_ne _ 10 (by omega) (HPN.out i (by omega) hlt)).1
                  go_wp2
                  go_round
                  case rel => exact ⟨i + 1, by omega, by go_num, rfl⟩
                  case measure => simp [intOf]; omega
                · obtain rfl : i = p := by omega
                  have HNT := Lib.hid (tail_toks a0 (a1.extract 0 i) hC xs HALL.out)
                  have hq1 : (a0 ++ (⟨#[10, 35]⟩ : ByteArray)).size = a0.size + 2 := by rw [← sizeL, bsA, List.length_append, sizeL]; rfl
                  have hq2 : ((a0 ++ (⟨#[10, 35]⟩ : ByteArray)) ++ a1.extract 0 i).size ≤ 502 := by rw [← sizeL, bsA, List.length_append, sizeL, sizeL, hq1]; omega
                  have hv1 : (9223372036854775807 < a0.size + (⟨#[10, 35]⟩ : ByteArray).size) = False := eq_false (by rw [show (⟨#[10, 35]⟩ : ByteArray).size = 2 from rfl]; omega)
                  have hv1' : (9223372036854775807 < a0.size + 2) = False := eq_false (by omega)
                  have hv2 : (9223372036854775807 < (a0 ++ (⟨#[10, 35]⟩ : ByteArray)).size + (a1.extract 0 i).size) = False := eq_false (by rw [hq1]; omega)
                  have hv3 : (9223372036854775807 < a0.size + (⟨#[10, 35]⟩ : ByteArray).size + (a1.extract 0 i).size) = False := eq_false (by rw [show (⟨#[10, 35]⟩ : ByteArray).size = 2 from rfl]; omega)
                  have hv3' : (9223372036854775807 < a0.size + 2 + (a1.extract 0 i).size) = False := eq_false (by omega)
                  have HAJ := Lib.hid (fun W hW => all_calls (bs J) (by omega) W hW)
                  have HAN := Lib.hid (fun W hW => all_calls ((a0 ++ (⟨#[10, 35]⟩ : ByteArray)) ++ a1.extract 0 i) (by omega) W hW)
                  have HJ2 := Lib.hid hj2
                  clear hq1 hq2 hC hj2
                  go_wp2_with fail
                  refine (HAJ.out _ HT3.out).mono ?_
                  rintro e w4 ⟨hB4, h4⟩
                  rw [HJ1.out] at h4
                  rcases h4 with ⟨p, hp, _⟩ | ⟨_, A4, c4, rfl, ht4⟩
                  · cases hp
                  dsimp only at ht4 ⊢
                  have HTK4 := Lib.hid ht4
                  have hB14 := hB13.trans (hB4.mono hB13.size)
                  have HT4 := Lib.hid (HT3.out.below hB4 hw3)
                  have hw4 : 2 ≤ w4.heap.size := HT4.out.2.2
                  have HL4 := Lib.hid (HTK3.out.below hB4 (Nat.le_refl _) |>.mono hB4.size)
                  have HW4 := Lib.hid (HST3.out.below hB4 (Nat.le_refl _) |>.mono hB4.size)
                  rw [HJ2.out]
                  clear ht4 hB4 HAJ hB13 HT3 HTK3 HST3
                  go_wp2_with fail
                  refine (HAN.out _ HT4.out).mono ?_
                  rintro e w5 ⟨hB5, h5⟩
                  rw [HNT.out] at h5
                  rcases h5 with ⟨p, hp, _⟩ | ⟨_, A5, c5, rfl, ht5⟩
                  · cases hp
                  dsimp only at ht5 ⊢
                  rw [List.length_map] at ht5 ⊢
                  have HN5 := Lib.hid ht5
                  have hB15 := hB14.trans (hB5.mono hB14.size)
                  have HTK5 := Lib.hid (HTK4.out.below hB5 (Nat.le_refl _) |>.mono hB5.size)
                  have HL5 := Lib.hid (HL4.out.below hB5 (Nat.le_refl _) |>.mono hB5.size)
                  have HW5 := Lib.hid (HW4.out.below hB5 (Nat.le_refl _) |>.mono hB5.size)
                  clear ht5 hB5 HAN hB14 HT4 HTK4 HL4 HW4 hv1 hv1' hv2 hv3 hv3'
                  have htx := text_calls (bs J) (by omega) A4 c4 ms (by rw [HJ2.out]; omega) w5 HTK5.out (fun i hi => by
                    have := (HJ3.out i (by rw [← HJ2.out]; exact hi) hi).2.2
                    rw [bs_size]; exact this)
                  rw [HJ2.out] at htx
                  have HTX := Lib.hid htx
                  clear htx
                  go_wp2_with fail
                  refine HTX.out.mono ?_
                  rintro e w6 ⟨A6, c6, rfl, hst6, hB6⟩
                  rw [HJ2.out] at hst6 ⊢
                  rw [bs_toList] at hst6
                  have HG6 := Lib.hid hst6
                  have hB16 := hB15.trans (hB6.mono hB15.size)
                  have HTK6 := Lib.hid (HTK5.out.below hB6 (Nat.le_refl _))
                  have HN6 := Lib.hid (HN5.out.below hB6 (Nat.le_refl _))
                  have HL6 := Lib.hid (HL5.out.below hB6 (Nat.le_refl _))
                  have HW6 := Lib.hid (HW5.out.below hB6 (Nat.le_refl _))
                  clear hst6 hB6 hB15 HTX HTK5 HN5 HL5 HW5
                  go_wp2
                  go_loopw [113] (fun a wr => ∃ i : Nat, i ≤ xs.length ∧ a = .int .i64 i ∧ ∃ nq, wr = w6.drewN nq) (fun a _ => xs.length - (intOf a).toNat)
                  case atStart => exact ⟨0, Nat.zero_le _, rfl, 0, rfl⟩
                  case round =>
                    obtain ⟨i, hi, rfl, nq, rfl⟩ := hrel
                    by_cases hlt : i < xs.length
                    · have hml : i < ms.length := by rw [HJ2.out]; exact hlt
                      obtain ⟨b1, o1, rfl, _, hx1, c0, c1, c2⟩ := HL6.out.get i hlt
                      obtain ⟨b2, o2, rfl, _, hx2, d0⟩ := HW6.out.get i hlt
                      obtain ⟨b3, o3, rfl, _, hx3, e0, e1, e2⟩ := HTK6.out.get i (by rw [HJ2.out]; exact hlt)
                      obtain ⟨b4, o4, rfl, _, hx4, f0, f1, f2⟩ := HN6.out.get i hlt
                      obtain ⟨b5, o5, rfl, _, hx5, g0⟩ := HG6.out.get i hlt
                      obtain ⟨q1, q2, _, _⟩ := HJ3.out i hlt hml
                      rw [List.getElem_map] at d0 f0 f1 f2 g0
                      rw [q1] at e0
                      rw [q2] at g0
                      clear q1 q2 e1 e2
                      generalize hgx : xs[i] = x at c0 c1 c2 d0 e0 f0 f1 f2 g0
                      clear hgx
                      generalize bytesOf a0.data.toList x = bb at d0 g0
                      obtain ⟨kd, lo, hi'⟩ := x
                      dsimp only at c0 c1 c2 e0 f0 f1 f2
                      have hi0 : (0 : Int) ≤ (i : Int) := by omega
                      have hi1 : (i : Int) < (xs.length : Int) := by omega
                      by_cases hk0 : kd = 0
                      · subst hk0
                        have hend : ∀ n, endTo n ⟨0, lo, hi'⟩ = ⟨0, n, n⟩ := fun _ => rfl
                        rw [hend] at f0 f1 f2
                        clear hend
                        dsimp only at f0 f1 f2
                        go_wp2_with fail
                        go_quiet (fail)
                        go_wp2
                        go_roundw
                        case rel => exact ⟨i + 1, by omega, by go_num, _, rfl⟩
                        case measure => simp [intOf]; omega
                      · have hend : ∀ n, endTo n ⟨kd, lo, hi'⟩ = ⟨kd, lo, hi'⟩ := fun _ => by unfold endTo; rw [if_neg hk0]
                        rw [hend] at f0 f1 f2
                        clear hend
                        dsimp only at f0 f1 f2
                        have k2 : ((kd : Int) != 0) = true := by rw [bne_iff_ne]; omega
                        clear hk0
                        go_wp2_with fail
                        go_quiet (fail)
                        go_wp2
                        go_roundw
                        case rel => exact ⟨i + 1, by omega, by go_num, _, rfl⟩
                        case measure => simp [intOf]; omega
                    · obtain rfl : i = xs.length := by omega
                      have hB17 := below_drewN' hB16 nq
                      go_wp2
                      go_ret
                      exact ⟨rfl, hB17⟩
            · have hC : ∀ d ∈ a1.data.toList, d ≠ 10 := fun d hd => by
                obtain ⟨j, hj, rfl⟩ := List.mem_iff_getElem.1 hd
                exact hno j (by rw [sizeL] at hj; exact hj)
              have HNO := Lib.hid hno
              clear hno
              go_wp2
              go_loop [1, 62] (fun v a => ∃ i : Nat, i ≤ a1.size ∧ a = .int .i64 i ∧ v = .string a1) (fun _ a => a1.size - (intOf a).toNat)
              case atStart => exact ⟨0, Nat.zero_le _, rfl, rfl⟩
              case round =>
                obtain ⟨i, hi, rfl, rfl⟩ := hrel
                by_cases hlt : i < a1.size
                · have hne := (bytes_ne _ 10 (by omega) (HNO.out i hlt)).1
                  have hi1 : (i : Int) < (a1.size : Int) := by omega
                  have hi0 : (0 : Int) ≤ (i : Int) := by omega
                  go_wp2
                  go_round
                  case rel => exact ⟨i + 1, by omega, by go_num, rfl⟩
                  case measure => simp [intOf]; omega
                · obtain rfl : i = a1.size := by omega
                  have HNT := Lib.hid (tail_toks a0 a1 hC xs HALL.out)
                  have hq1 : (a0 ++ (⟨#[10, 35]⟩ : ByteArray)).size = a0.size + 2 := by rw [← sizeL, bsA, List.length_append, sizeL]; rfl
                  have hq2 : ((a0 ++ (⟨#[10, 35]⟩ : ByteArray)) ++ a1).size ≤ 502 := by rw [← sizeL, bsA, List.length_append, sizeL, sizeL, hq1]; omega
                  have hv1 : (9223372036854775807 < a0.size + (⟨#[10, 35]⟩ : ByteArray).size) = False := eq_false (by rw [show (⟨#[10, 35]⟩ : ByteArray).size = 2 from rfl]; omega)
                  have hv1' : (9223372036854775807 < a0.size + 2) = False := eq_false (by omega)
                  have hv2 : (9223372036854775807 < (a0 ++ (⟨#[10, 35]⟩ : ByteArray)).size + a1.size) = False := eq_false (by rw [hq1]; omega)
                  have hv3 : (9223372036854775807 < a0.size + (⟨#[10, 35]⟩ : ByteArray).size + a1.size) = False := eq_false (by rw [show (⟨#[10, 35]⟩ : ByteArray).size = 2 from rfl]; omega)
                  have hv3' : (9223372036854775807 < a0.size + 2 + a1.size) = False := eq_false (by omega)
                  have HAJ := Lib.hid (fun W hW => all_calls (bs J) (by omega) W hW)
                  have HAN := Lib.hid (fun W hW => all_calls ((a0 ++ (⟨#[10, 35]⟩ : ByteArray)) ++ a1) (by omega) W hW)
                  have HJ2 := Lib.hid hj2
                  clear hq1 hq2 hC hj2
                  go_wp2_with fail
                  refine (HAJ.out _ HT3.out).mono ?_
                  rintro e w4 ⟨hB4, h4⟩
                  rw [HJ1.out] at h4
                  rcases h4 with ⟨p, hp, _⟩ | ⟨_, A4, c4, rfl, ht4⟩
                  · cases hp
                  dsimp only at ht4 ⊢
                  have HTK4 := Lib.hid ht4
                  have hB14 := hB13.trans (hB4.mono hB13.size)
                  have HT4 := Lib.hid (HT3.out.below hB4 hw3)
                  have hw4 : 2 ≤ w4.heap.size := HT4.out.2.2
                  have HL4 := Lib.hid (HTK3.out.below hB4 (Nat.le_refl _) |>.mono hB4.size)
                  have HW4 := Lib.hid (HST3.out.below hB4 (Nat.le_refl _) |>.mono hB4.size)
                  rw [HJ2.out]
                  clear ht4 hB4 HAJ hB13 HT3 HTK3 HST3
                  go_wp2_with fail
                  refine (HAN.out _ HT4.out).mono ?_
                  rintro e w5 ⟨hB5, h5⟩
                  rw [HNT.out] at h5
                  rcases h5 with ⟨p, hp, _⟩ | ⟨_, A5, c5, rfl, ht5⟩
                  · cases hp
                  dsimp only at ht5 ⊢
                  rw [List.length_map] at ht5 ⊢
                  have HN5 := Lib.hid ht5
                  have hB15 := hB14.trans (hB5.mono hB14.size)
                  have HTK5 := Lib.hid (HTK4.out.below hB5 (Nat.le_refl _) |>.mono hB5.size)
                  have HL5 := Lib.hid (HL4.out.below hB5 (Nat.le_refl _) |>.mono hB5.size)
                  have HW5 := Lib.hid (HW4.out.below hB5 (Nat.le_refl _) |>.mono hB5.size)
                  clear ht5 hB5 HAN hB14 HT4 HTK4 HL4 HW4 hv1 hv1' hv2 hv3 hv3'
                  have htx := text_calls (bs J) (by omega) A4 c4 ms (by rw [HJ2.out]; omega) w5 HTK5.out (fun i hi => by
                    have := (HJ3.out i (by rw [← HJ2.out]; exact hi) hi).2.2
                    rw [bs_size]; exact this)
                  rw [HJ2.out] at htx
                  have HTX := Lib.hid htx
                  clear htx
                  go_wp2_with fail
                  refine HTX.out.mono ?_
                  rintro e w6 ⟨A6, c6, rfl, hst6, hB6⟩
                  rw [HJ2.out] at hst6 ⊢
                  rw [bs_toList] at hst6
                  have HG6 := Lib.hid hst6
                  have hB16 := hB15.trans (hB6.mono hB15.size)
                  have HTK6 := Lib.hid (HTK5.out.below hB6 (Nat.le_refl _))
                  have HN6 := Lib.hid (HN5.out.below hB6 (Nat.le_refl _))
                  have HL6 := Lib.hid (HL5.out.below hB6 (Nat.le_refl _))
                  have HW6 := Lib.hid (HW5.out.below hB6 (Nat.le_refl _))
                  clear hst6 hB6 hB15 HTX HTK5 HN5 HL5 HW5
                  go_wp2
                  go_loopw [113] (fun a wr => ∃ i : Nat, i ≤ xs.length ∧ a = .int .i64 i ∧ ∃ nq, wr = w6.drewN nq) (fun a _ => xs.length - (intOf a).toNat)
                  case atStart => exact ⟨0, Nat.zero_le _, rfl, 0, rfl⟩
                  case round =>
                    obtain ⟨i, hi, rfl, nq, rfl⟩ := hrel
                    by_cases hlt : i < xs.length
                    · have hml : i < ms.length := by rw [HJ2.out]; exact hlt
                      obtain ⟨b1, o1, rfl, _, hx1, c0, c1, c2⟩ := HL6.out.get i hlt
                      obtain ⟨b2, o2, rfl, _, hx2, d0⟩ := HW6.out.get i hlt
                      obtain ⟨b3, o3, rfl, _, hx3, e0, e1, e2⟩ := HTK6.out.get i (by rw [HJ2.out]; exact hlt)
                      obtain ⟨b4, o4, rfl, _, hx4, f0, f1, f2⟩ := HN6.out.get i hlt
                      obtain ⟨b5, o5, rfl, _, hx5, g0⟩ := HG6.out.get i hlt
                      obtain ⟨q1, q2, _, _⟩ := HJ3.out i hlt hml
                      rw [List.getElem_map] at d0 f0 f1 f2 g0
                      rw [q1] at e0
                      rw [q2] at g0
                      clear q1 q2 e1 e2
                      generalize hgx : xs[i] = x at c0 c1 c2 d0 e0 f0 f1 f2 g0
                      clear hgx
                      generalize bytesOf a0.data.toList x = bb at d0 g0
                      obtain ⟨kd, lo, hi'⟩ := x
                      dsimp only at c0 c1 c2 e0 f0 f1 f2
                      have hi0 : (0 : Int) ≤ (i : Int) := by omega
                      have hi1 : (i : Int) < (xs.length : Int) := by omega
                      by_cases hk0 : kd = 0
                      · subst hk0
                        have hend : ∀ n, endTo n ⟨0, lo, hi'⟩ = ⟨0, n, n⟩ := fun _ => rfl
                        rw [hend] at f0 f1 f2
                        clear hend
                        dsimp only at f0 f1 f2
                        go_wp2_with fail
                        go_quiet (fail)
                        go_wp2
                        go_roundw
                        case rel => exact ⟨i + 1, by omega, by go_num, _, rfl⟩
                        case measure => simp [intOf]; omega
                      · have hend : ∀ n, endTo n ⟨kd, lo, hi'⟩ = ⟨kd, lo, hi'⟩ := fun _ => by unfold endTo; rw [if_neg hk0]
                        rw [hend] at f0 f1 f2
                        clear hend
                        dsimp only at f0 f1 f2
                        have k2 : ((kd : Int) != 0) = true := by rw [bne_iff_ne]; omega
                        clear hk0
                        go_wp2_with fail
                        go_quiet (fail)
                        go_wp2
                        go_roundw
                        case rel => exact ⟨i + 1, by omega, by go_num, _, rfl⟩
                        case measure => simp [intOf]; omega
                    · obtain rfl : i = xs.length := by omega
                      have hB17 := below_drewN' hB16 nq
                      go_wp2
                      go_ret
                      exact ⟨rfl, hB17⟩
    · have hs' : (100 : Int) < (a1.size : Int) := by omega
      go_enter Tryd.func8, Tryd.ntmps8
      go_wp2_with fail
      refine (awake_calls _ hT).mono ?_
      rintro e w1 ⟨rfl, hB1⟩
      have hT1 := Lib.hid (hT.below hB1 hT.2.2)
      go_wp2_with fail
      refine (awake_calls _ hT1.out).mono ?_
      rintro e w2 ⟨rfl, hB2⟩
      go_wp2
      go_ret
      exact ⟨rfl, hB1.trans (hB2.mono hB1.size)⟩
  · have hs' : (400 : Int) < (a0.size : Int) := by omega
    go_enter Tryd.func8, Tryd.ntmps8
    go_wp2_with fail
    refine (awake_calls _ hT).mono ?_
    rintro e w1 ⟨rfl, hB1⟩
    have hT1 := Lib.hid (hT.below hB1 hT.2.2)
    go_wp2_with fail
    refine (awake_calls _ hT1.out).mono ?_
    rintro e w2 ⟨rfl, hB2⟩
    go_wp2
    go_ret
    exact ⟨rfl, hB1.trans (hB2.mono hB1.size)⟩

end Go.Proofs.YtgkgmlmipcnhbaaDoor
