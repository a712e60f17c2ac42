/-
  Package order's numbers and places.
-/
import Derived.Test.YtdknejmhlfpdfaaGreatDoorOrW
namespace Go.Proofs.YtdknejmhlfpdfaaGreatDoor
open Go.RowKit

/-- What numberOf answers. -/
def NbP (t : List UInt8) (w : World) (e : Ending) (w' : World) : Prop :=
  Below w.heap.size w w' ∧ ((∃ n, numO t = some n ∧ e = .returned (.tuple #[.int .i64 n, .bool true])) ∨ (numO t = none ∧ ∃ n, e = .returned (.tuple #[.int .i64 n, .bool false])))
set_option maxRecDepth 100000 in
set_option maxHeartbeats 1000000 in
theorem numberOf_calls (t : List UInt8) (ht : t.length ≤ 100000) (w : World) (hX : XO w) : Calls Tryz.prog 23 #[.string (bs t)] w (NbP t w) := by
  have HA := Lib.hid (atoi_calls t (by omega) w hX.tx)
  have HX := Lib.hid hX
  have HO : Hid (numO t = match numM t with | some n => if 0 ≤ n ∧ n ≤ 999999 then some n else none | none => none) := Lib.hid rfl
  have HM : Hid (numM t = match Lib.atoiAll t with | .ok v => if Lib.itoa v = t then some v else none | _ => none) := Lib.hid rfl
  clear hX
  have HS : Hid (∀ x : List UInt8, x ≠ t → ((bs x).toList == (bs t).toList) = false) := Lib.hid fun x h => str_neC h
  have HS2 : Hid (((bs t).toList == (bs t).toList) = true) := Lib.hid (beq_self_eq_true _)
  go_enter Tryz.func23, Tryz.ntmps23
  go_wp2_with fail
  refine HA.out.mono ?_
  rintro e w1 ⟨hB, h⟩
  have HB := Lib.hid hB
  rcases h with ⟨v, hv, rfl⟩ | ⟨hv, v, N, rfl⟩
  · have hm := HM.out
    rw [hv] at hm
    simp only at hm
    have ho := HO.out
    rw [hm] at ho
    have HV := Lib.hid (atoi_i64 hv)
    by_cases h0 : 0 ≤ v
    · by_cases h1 : v ≤ 999999
      · have HI := Lib.hid (itoa_calls v HV.out w1 (HX.out.tx.below hB (Nat.le_refl _)))
        by_cases he : Lib.itoa v = t
        · rw [if_pos he] at ho
          simp only at ho
          rw [if_pos ⟨h0, h1⟩] at ho
          have HR := Lib.hid ho
          rw [he] at HI
          have hq := HS2.out
          clear hB ho hm hv he
          go_wp2_with (go_at_call 27; refine HI.out.mono ?_; rintro e w2 ⟨rfl, hb⟩)
          go_ret2
          exact ⟨HB.out.trans (hb.mono HB.out.size), .inl ⟨v, HR.out, rfl⟩⟩
        · rw [if_neg he] at ho
          simp only at ho
          have HR := Lib.hid ho
          have hq := HS.out _ he
          clear hB ho hm hv he
          go_wp2_with (go_at_call 27; refine HI.out.mono ?_; rintro e w2 ⟨rfl, hb⟩)
          go_ret2
          exact ⟨HB.out.trans (hb.mono HB.out.size), .inr ⟨HR.out, v, rfl⟩⟩
      · have HR : Hid (numO t = none) := Lib.hid (by
          rw [ho]
          split
          · rename_i n hn
            split at hn
            · obtain rfl := Option.some.inj hn
              rw [if_neg (fun h => h1 h.2)]
            · cases hn
          · rfl)
        have d0 : decide (0 ≤ v) = true := decide_eq_true h0
        have d1 : decide (v ≤ 999999) = false := decide_eq_false h1
        clear hB ho hm hv h0 h1
        go_wp2_with fail
        go_ret2
        exact ⟨HB.out, .inr ⟨HR.out, v, rfl⟩⟩
    · have HR : Hid (numO t = none) := Lib.hid (by
        rw [ho]
        split
        · rename_i n hn
          split at hn
          · obtain rfl := Option.some.inj hn
            rw [if_neg (fun h => h0 h.1)]
          · cases hn
        · rfl)
      have d0 : decide (0 ≤ v) = false := decide_eq_false h0
      clear hB ho hm hv h0
      go_wp2_with fail
      go_ret2
      exact ⟨HB.out, .inr ⟨HR.out, v, rfl⟩⟩
  · have HR : Hid (numO t = none) := Lib.hid (by
      have hm : numM t = none := by
        rw [HM.out]
        split
        · rename_i v' hv'
          exact absurd hv' (hv v')
        · rfl
      rw [HO.out, hm])
    clear hB hv
    go_wp2_with fail
    go_ret2
    exact ⟨HB.out, .inr ⟨HR.out, v, rfl⟩⟩
set_option maxRecDepth 100000 in
set_option maxHeartbeats 1000000 in
theorem isName_calls (t : List UInt8) (ht : t.length ≤ 100000) (w : World) (hX : XO w) : Calls Tryz.prog 38 #[.string (bs t)] w fun e w' => e = .returned (.bool (isNm t)) ∧ Below w.heap.size w w' := by
  have HT := Lib.hid (fun W (h : Tabs W) => tnext_calls (bs t) (by rw [bs_size]; exact ht) 0 (by omega) W h)
  rw [bs_toList] at HT
  have HE : Hid ((((nextT t 0).kind : Int) == 1 && (((nextT t 0).lo : Int) == 0 && ((nextT t 0).hi : Int) == (t.length : Int))) = isNm t) := Lib.hid (by
    rw [Bool.eq_iff_iff, ← isNm_next]
    simp only [Bool.and_eq_true, beq_iff_eq]
    constructor
    · rintro ⟨h1, h2, h3⟩
      refine ⟨?_, by omega, by omega, by omega⟩
      unfold nextBad
      cases hb : ((nextT t 0).hi == (nextT t 0).lo && decide ((nextT t 0).lo < t.length)) with
      | false => rfl
      | true =>
        simp only [Bool.and_eq_true, beq_iff_eq, decide_eq_true_eq] at hb
        omega
    · rintro ⟨_, h1, h2, h3⟩
      exact ⟨by omega, by omega, by omega⟩)
  have hsz : (bs t).size = t.length := bs_size t
  have HTB := Lib.hid hX.tab
  clear hX
  generalize bs t = s at *
  generalize nextT t 0 = x at *
  generalize badC (nextBad t 0) = z at *
  obtain ⟨k, lo, hi⟩ := x
  unfold tokV at HT
  dsimp only at HE HT
  go_enter Tryz.func38, Tryz.ntmps38
  go_wp2_with fail
  refine (HT.out w HTB.out).mono ?_
  rintro e w1 ⟨rfl, hB⟩
  have HB := Lib.hid hB
  clear hB
  go_wp2_with fail
  all_goals
    go_ret
    exact ⟨by rw [← HE.out]; simp [*], HB.out.alloc HB.out.size _⟩
theorem clone_calls (s : ByteArray) (hs : s.size ≤ 100000) (w : World) : Calls Tryz.prog 39 #[.string s] w fun e w' => e = .returned (.string s) ∧ Below w.heap.size w w' := by
  have HC := Lib.hid (Tryz.cloneW s w (by omega))
  go_enter Tryz.func39, Tryz.ntmps39
  go_wp2_with fail
  refine HC.out.mono ?_
  rintro e w1 ⟨rfl, hB⟩
  go_wp2_with fail
  go_ret
  exact ⟨rfl, hB⟩
/-- What placeOf answers. -/
def PlP (t : List UInt8) (w : World) (e : Ending) (w' : World) : Prop :=
  Below w.heap.size w w' ∧ ((∃ p, plM t = some p ∧ e = .returned (.tuple #[.string (bs p.1), .int .i64 p.2, .bool true])) ∨ (plM t = none ∧ ∃ a n, e = .returned (.tuple #[.string a, .int .i64 n, .bool false])))
theorem plM_eq (t : List UInt8) : plM t = if isNm (ahA t) = true then (if (ahA t).length = t.length then some (t, -1) else if (bhA t).getLast? = some 93 then (numO (bhA t).dropLast).map fun n => (ahA t, n) else none) else none := rfl
theorem ahA_all {t : List UInt8} (h : (ahA t).length = t.length) : ahA t = t := (List.takeWhile_prefix _).eq_of_length h
set_option maxRecDepth 100000 in
set_option maxHeartbeats 2000000 in
theorem placeOf_calls (t : List UInt8) (ht : t.length ≤ 100000) (w : World) (hX : XO w) : Calls Tryz.prog 24 #[.string (bs t)] w (PlP t w) := by
  have HC := Lib.hid (cut_calls t ht w)
  have HX := Lib.hid hX
  have hle := ah_le t
  have HP := Lib.hid (plM_eq t)
  have hbl : (bhA t).length ≤ 100000 := by unfold bhA; rw [List.length_drop]; omega
  clear hX
  go_enter Tryz.func24, Tryz.ntmps24
  go_wp2_with fail
  refine HC.out.mono ?_
  rintro e w1 ⟨h, hB⟩
  have HB := Lib.hid hB
  have HX1 := Lib.hid (HX.out.below hB (Nat.le_refl _))
  have HNM := Lib.hid (fun (x : List UInt8) hx => isName_calls x hx w1 HX1.out)
  rcases h with ⟨h, rfl⟩ | ⟨h, rfl⟩
  · have hpm := HP.out
    rw [if_pos h, ahA_all h] at hpm
    have HN := Lib.hid (HNM.out t ht)
    have HCL := Lib.hid (fun W => clone_calls (bs t) (by rw [bs_size]; exact ht) W)
    clear hB h hle hbl
    cases hn : isNm t
    · rw [hn] at hpm HN
      have HPM := Lib.hid hpm
      clear hpm hn
      generalize bs t = s at *
      go_wp2_with fail
      refine HN.out.mono ?_
      rintro e w2 ⟨rfl, hb⟩
      have HB2 := Lib.hid (HB.out.trans (hb.mono HB.out.size))
      go_wp2_with fail
      exact bodyPost_ret (v := .tuple #[.string ⟨#[]⟩, .int .i64 0, .bool false]) (by simp [results, Tryz.f24, go_sem]) rfl ⟨HB2.out, .inr ⟨HPM.out, _, _, rfl⟩⟩
    · rw [hn] at hpm HN
      have HPM := Lib.hid hpm
      clear hpm hn
      have HT : Hid (∃ s, s = bs t) := Lib.hid ⟨_, rfl⟩
      obtain ⟨s, hs⟩ := HT.out
      rw [← hs] at HN HCL ⊢
      have HS := Lib.hid hs
      clear hs HT
      go_wp2_with fail
      refine HN.out.mono ?_
      rintro e w2 ⟨rfl, hb⟩
      have HB2 := Lib.hid (HB.out.trans (hb.mono HB.out.size))
      clear hb
      go_wp2_with fail
      refine (HCL.out _).mono ?_
      rintro e w3 ⟨rfl, hb⟩
      have HB3 := Lib.hid (HB2.out.trans (hb.mono HB2.out.size))
      clear hb
      go_wp2_with fail
      exact bodyPost_ret (v := .tuple #[.string s, .int .i64 (-1), .bool true]) (by simp [results, Tryz.f24, go_sem]) rfl ⟨HB3.out, .inl ⟨_, HPM.out, by rw [HS.out]⟩⟩
  · have hpm := HP.out
    rw [if_neg h] at hpm
    have HN := Lib.hid (HNM.out (ahA t) (by omega))
    have HCL := Lib.hid (fun W => clone_calls (bs (ahA t)) (by rw [bs_size]; omega) W)
    have HSF := Lib.hid (fun W => sufB_calls (bhA t) hbl W)
    have HNO := Lib.hid (fun (x : List UInt8) (hx : x.length ≤ 100000) W hW => numberOf_calls x hx W hW)
    have HDL : Hid ((bhA t).dropLast.length ≤ 100000) := Lib.hid (by rw [List.length_dropLast]; omega)
    clear hB h hle hbl
    generalize bhA t = u at *
    generalize ahA t = a at *
    cases hn : isNm a
    · rw [hn] at hpm HN
      have HPM := Lib.hid hpm
      clear hpm hn
      generalize bs a = s at *
      generalize bs u = s2 at *
      go_wp2_with fail
      refine HN.out.mono ?_
      rintro e w2 ⟨rfl, hb⟩
      have HB2 := Lib.hid (HB.out.trans (hb.mono HB.out.size))
      go_wp2_with fail
      exact bodyPost_ret (v := .tuple #[.string ⟨#[]⟩, .int .i64 0, .bool false]) (by simp [results, Tryz.f24, go_sem]) rfl ⟨HB2.out, .inr ⟨HPM.out, _, _, rfl⟩⟩
    · rw [hn] at hpm HN
      rw [if_pos rfl] at hpm
      have HPM := Lib.hid hpm
      clear hpm hn
      obtain ⟨s, hs⟩ : ∃ s, s = bs a := ⟨_, rfl⟩
      rw [← hs] at HN HCL ⊢
      have HS := Lib.hid hs
      clear hs
      generalize bs u = s2 at *
      go_wp2_with fail
      refine HN.out.mono ?_
      rintro e w2 ⟨rfl, hb⟩
      have HB2 := Lib.hid (HB.out.trans (hb.mono HB.out.size))
      clear hb
      go_wp2_with fail
      refine (HCL.out _).mono ?_
      rintro e w3 ⟨rfl, hb⟩
      have HB3 := Lib.hid (HB2.out.trans (hb.mono HB2.out.size))
      clear hb
      go_wp2_with fail
      refine (HSF.out _).mono ?_
      rintro e w4 ⟨h, hb⟩
      have HB4 := Lib.hid (HB3.out.trans (hb.mono HB3.out.size))
      have HX4 := Lib.hid (HX.out.below HB4.out (Nat.le_refl _))
      clear hb
      rcases h with ⟨h, rfl⟩ | ⟨h, r, hr, rfl⟩
      · have hpm := HPM.out
        rw [if_pos h] at hpm
        have HN5 := Lib.hid (HNO.out _ HDL.out w4 HX4.out)
        clear h
        generalize u.dropLast = d at *
        generalize bs d = sd at *
        have HPM := Lib.hid hpm
        clear hpm
        go_wp2_with fail
        refine HN5.out.mono ?_
        rintro e w5 ⟨hb, h5⟩
        have HB5 := Lib.hid (HB4.out.trans (hb.mono HB4.out.size))
        have hpm := HPM.out
        rcases h5 with ⟨n, hn5, rfl⟩ | ⟨hn5, n, rfl⟩
        · rw [hn5] at hpm
          have HPM := Lib.hid hpm
          clear hb hpm hn5
          go_wp2_with fail
          exact bodyPost_ret (v := .tuple #[.string s, .int .i64 n, .bool true]) (by simp [results, Tryz.f24, go_sem]) rfl ⟨HB5.out, .inl ⟨_, HPM.out, by rw [HS.out]⟩⟩
        · rw [hn5] at hpm
          have HPM := Lib.hid hpm
          clear hb hpm hn5
          go_wp2_with fail
          exact bodyPost_ret (v := .tuple #[.string s, .int .i64 n, .bool false]) (by simp [results, Tryz.f24, go_sem]) rfl ⟨HB5.out, .inr ⟨HPM.out, _, _, rfl⟩⟩
      · have hpm := HPM.out
        rw [if_neg h] at hpm
        have HN5 := Lib.hid (HNO.out _ hr w4 HX4.out)
        have HPM := Lib.hid hpm
        clear h hr hpm
        generalize bs r = sd at *
        go_wp2_with fail
        refine HN5.out.mono ?_
        rintro e w5 ⟨hb, h5⟩
        have HB5 := Lib.hid (HB4.out.trans (hb.mono HB4.out.size))
        obtain ⟨n, b, rfl⟩ : ∃ n b, e = .returned (.tuple #[.int .i64 n, .bool b]) := by
          rcases h5 with ⟨n, _, rfl⟩ | ⟨_, n, rfl⟩
          · exact ⟨n, _, rfl⟩
          · exact ⟨n, _, rfl⟩
        clear hb h5
        go_wp2_with fail
        exact bodyPost_ret (v := .tuple #[.string s, .int .i64 n, .bool false]) (by simp [results, Tryz.f24, go_sem]) rfl ⟨HB5.out, .inr ⟨HPM.out, _, _, rfl⟩⟩

end Go.Proofs.YtdknejmhlfpdfaaGreatDoor
