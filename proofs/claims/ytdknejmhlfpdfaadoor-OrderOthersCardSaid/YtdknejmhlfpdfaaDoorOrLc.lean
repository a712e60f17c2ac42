/-
  The statement OrderOthers, walked.
-/
import Derived.Test.YtdknejmhlfpdfaaDoorOrLb
import Derived.Deep.RegionHeld3
namespace Go.Proofs.YtdknejmhlfpdfaaDoor
open Go.RowKit

theorem two_boxes (w : World) (a b : Array Value) (t : TypeId) : ((w.alloc (.cells a t)).alloc (.cells b t)).heap[w.heap.size]? = some (.cells a t (0, 0)) ∧ ((w.alloc (.cells a t)).alloc (.cells b t)).heap[w.heap.size + 1]? = some (.cells b t (0, 0)) := by
  have h1 : (w.alloc (.cells a t)).heap.size = w.heap.size + 1 := by show (w.heap.push _).size = _; simp
  refine ⟨?_, by rw [← h1]; exact heapOne _ _ _⟩
  have hb := (Below.refl (w.alloc (.cells a t)).heap.size (w.alloc (.cells a t))).alloc (Nat.le_refl _) (.cells b t)
  rw [hb.block _ (by omega)]
  exact heapOne _ _ _
set_option maxRecDepth 100000 in
set_option maxHeartbeats 8000000 in
theorem orderOthers_law {X : World → Prop} (HP : PaC X) (HG : GoC X) (HT : TeC X) (HK : KeC X) (k1 : Int) (a1 : ByteArray) (u1 : Int) (hk1 : i64 k1) (hn1 : i64 u1) (k2 : Int) (a2 : ByteArray) (u2 : Int) (hk2 : i64 k2) (hn2 : i64 u2) (w : World) (hX : X w) :
    Calls Tryd.prog 5 #[.agg #[.int .i64 k1, .string a1, .int .i64 u1], .agg #[.int .i64 k2, .string a2, .int .i64 u2]] w fun e w' => e = .returned (.bool true) ∧ Below w.heap.size w w' := by
  have hK := Lib.hid (fun W (hb : Below w.heap.size w W) => HK w W _ hX hb (Nat.le_refl _))
  have HAW := Lib.hid (fun W (hb : Below w.heap.size w W) => ordAwake_calls HP W (hK.out W hb))
  obtain ⟨m1, rfl⟩ : ∃ t, a1 = bs t := ⟨a1.data.toList, by apply WideShapes.bytes_inj; rw [bs_toList]⟩
  obtain ⟨m2, rfl⟩ : ∃ t, a2 = bs t := ⟨a2.data.toList, by apply WideShapes.bytes_inj; rw [bs_toList]⟩
  have hs1 : (bs m1).size = m1.length := bs_size m1
  have hs2 : (bs m2).size = m2.length := bs_size m2
  have HNE := Lib.hid (fun (h : m1 ≠ m2) => str_neL h)
  obtain ⟨N1, hN1⟩ : ∃ N, N = bs m1 := ⟨_, rfl⟩
  obtain ⟨N2, hN2⟩ : ∃ N, N = bs m2 := ⟨_, rfl⟩
  have HN1 := Lib.hid hN1
  have HN2 := Lib.hid hN2
  rw [← hN1, ← hN2] at HNE ⊢
  rw [← hN1] at hs1
  rw [← hN2] at hs2
  clear hN1 hN2
  have HBX := Lib.hid (two_boxes w #[.int .i64 k1, .string N1, .int .i64 u1] #[.int .i64 k2, .string N2, .int .i64 u2] 26)
  have HB0 := Lib.hid (((Below.refl w.heap.size w).alloc (Nat.le_refl _) (.cells #[.int .i64 k1, .string N1, .int .i64 u1] 26)).alloc (by show _ ≤ (w.heap.push _).size; simp) (.cells #[.int .i64 k2, .string N2, .int .i64 u2] 26))
  go_enter Tryd.func5, Tryd.ntmps5
  go_wp2_with fail
  generalize (w.alloc (.cells #[.int .i64 k1, .string N1, .int .i64 u1] 26)).alloc (.cells #[.int .i64 k2, .string N2, .int .i64 u2] 26) = W0 at *
  have HX0 := Lib.hid HBX.out.1
  have HY0 := Lib.hid HBX.out.2
  clear HBX
  refine (HAW.out _ HB0.out).mono ?_
  rintro e w1 ⟨rfl, hB1⟩
  have HB1 := Lib.hid (HB0.out.trans (hB1.mono HB0.out.size))
  have HX1 := Lib.hid (box3 hB1 (blkLt HX0.out) HX0.out)
  have HY1 := Lib.hid (box3 hB1 (blkLt HY0.out) HY0.out)
  clear hB1
  obtain ⟨x0, x1, x2⟩ := box3c HX1.out
  obtain ⟨y0, y1, y2⟩ := box3c HY1.out
  by_cases hl1 : 300 < m1.length
  · have d1 : decide ((300 : Int) < (m1.length : Int)) = true := decide_eq_true (by omega)
    go_wp2_with fail
    refine (HAW.out _ HB1.out).mono ?_
    rintro e wz ⟨rfl, hBz⟩
    have HBz := Lib.hid (HB1.out.trans (hBz.mono HB1.out.size))
    clear hBz
    go_wp2
    go_ret
    exact ⟨rfl, HBz.out⟩
  · have d1 : decide ((300 : Int) < (m1.length : Int)) = false := decide_eq_false (by omega)
    by_cases hl2 : 300 < m2.length
    · have d2 : decide ((300 : Int) < (m2.length : Int)) = true := decide_eq_true (by omega)
      go_wp2_with fail
      refine (HAW.out _ HB1.out).mono ?_
      rintro e wz ⟨rfl, hBz⟩
      have HBz := Lib.hid (HB1.out.trans (hBz.mono HB1.out.size))
      clear hBz
      go_wp2
      go_ret
      exact ⟨rfl, HBz.out⟩
    · have d2 : decide ((300 : Int) < (m2.length : Int)) = false := decide_eq_false (by omega)
      have hGX1 : GoodX ⟨k1, m1, u1⟩ := ⟨hk1, hn1, by simp only; omega⟩
      have hGX2 : GoodX ⟨k2, m2, u2⟩ := ⟨hk2, hn2, by simp only; omega⟩
      have HT1 := Lib.hid (fun W (hb : Below w.heap.size w W) => HT _ hGX1 W (hK.out W hb))
      have HT2 := Lib.hid (fun W (hb : Below w.heap.size w W) => HT _ hGX2 W (hK.out W hb))
      have HG1 := Lib.hid (fun W (hb : Below w.heap.size w W) => HG _ hGX1 W (hK.out W hb))
      have HG2 := Lib.hid (fun W (hb : Below w.heap.size w W) => HG _ hGX2 W (hK.out W hb))
      unfold ordV at HT1 HT2 HG1 HG2
      dsimp only at HT1 HT2 HG1 HG2
      rw [← HN1.out] at HT1 HG1
      rw [← HN2.out] at HT2 HG2
      clear hl1 hl2
      go_wp2_with fail
      refine (HG1.out _ HB1.out).mono ?_
      rintro e w2 ⟨⟨b1, rfl, hb1⟩, hB2⟩
      have HB2 := Lib.hid (HB1.out.trans (hB2.mono HB1.out.size))
      have HX2 := Lib.hid (box3 hB2 (blkLt HX1.out) HX1.out)
      have HY2 := Lib.hid (box3 hB2 (blkLt HY1.out) HY1.out)
      clear hB2 x0 x1 x2 y0 y1 y2
      obtain ⟨x0, x1, x2⟩ := box3c HX2.out
      obtain ⟨y0, y1, y2⟩ := box3c HY2.out
      cases b1
      case false =>
        clear hb1
        go_wp2_with fail
        refine (HAW.out _ HB2.out).mono ?_
        rintro e wz ⟨rfl, hBz⟩
        have HBz := Lib.hid (HB2.out.trans (hBz.mono HB2.out.size))
        clear hBz
        go_wp2
        go_ret
        exact ⟨rfl, HBz.out⟩
      case true =>
        have HGA := Lib.hid (hb1.1 rfl)
        clear hb1
        go_wp2_with fail
        refine (HG2.out _ HB2.out).mono ?_
        rintro e w3 ⟨⟨b2, rfl, hb2⟩, hB3⟩
        have HB3 := Lib.hid (HB2.out.trans (hB3.mono HB2.out.size))
        have HX3 := Lib.hid (box3 hB3 (blkLt HX2.out) HX2.out)
        have HY3 := Lib.hid (box3 hB3 (blkLt HY2.out) HY2.out)
        clear hB3 x0 x1 x2 y0 y1 y2
        cases b2
        case false =>
          clear hb2
          go_wp2_with fail
          refine (HAW.out _ HB3.out).mono ?_
          rintro e wz ⟨rfl, hBz⟩
          have HBz := Lib.hid (HB3.out.trans (hBz.mono HB3.out.size))
          clear hBz
          go_wp2
          go_ret
          exact ⟨rfl, HBz.out⟩
        case true =>
          have HGB := Lib.hid (hb2.1 rfl)
          clear hb2
          have hne := txtO_ne HGA.out
          have HTT1 := Lib.hid (show ∀ W, Below w.heap.size w W → Calls Tryd.prog 11 #[.agg #[.int .i64 k1, .string N1, .int .i64 u1]] W fun e w' => e = .returned (.string (bs (txtO ⟨k1, m1, u1⟩))) ∧ Below W.heap.size W w' from fun W hb => (HT1.out W hb).mono fun e w' hp => ⟨by obtain ⟨⟨s, e1, e2, _⟩, _⟩ := hp; rw [e1, e2 HGA.out], hp.2⟩)
          have HTT2 := Lib.hid (show ∀ W, Below w.heap.size w W → Calls Tryd.prog 11 #[.agg #[.int .i64 k2, .string N2, .int .i64 u2]] W fun e w' => e = .returned (.string (bs (txtO ⟨k2, m2, u2⟩))) ∧ Below W.heap.size W w' from fun W hb => (HT2.out W hb).mono fun e w' hp => ⟨by obtain ⟨⟨s, e1, e2, _⟩, _⟩ := hp; rw [e1, e2 HGB.out], hp.2⟩)
          clear HT1 HT2 HG1 HG2
          have HT1 := HTT1
          have HT2 := HTT2
          clear HTT1 HTT2
          have hcs : ((k1 == k2) = true ∧ (N1.toList == N2.toList) = true ∧ (u1 == u2) = true ∧ ((bs (txtO ⟨k1, m1, u1⟩)).toList == (bs (txtO ⟨k2, m2, u2⟩)).toList) = true) ∨ (((k1 == k2) = false ∨ ((k1 == k2) = true ∧ (N1.toList == N2.toList) = false) ∨ ((k1 == k2) = true ∧ (N1.toList == N2.toList) = true ∧ (u1 == u2) = false)) ∧ ((bs (txtO ⟨k1, m1, u1⟩)).toList == (bs (txtO ⟨k2, m2, u2⟩)).toList) = false) := by
            by_cases hq : (⟨k1, m1, u1⟩ : OrdM) = ⟨k2, m2, u2⟩
            · injection hq with q1 q2 q3
              subst q1 q2 q3
              exact .inl ⟨beq_self_eq_true _, by rw [HN1.out, HN2.out]; exact beq_self_eq_true _, beq_self_eq_true _, beq_self_eq_true _⟩
            · refine .inr ⟨?_, str_neL (fun h => hq (txtO_inj HGA.out HGB.out h))⟩
              by_cases q1 : k1 = k2
              · by_cases q2 : m1 = m2
                · refine .inr (.inr ⟨beq_iff_eq.2 q1, by rw [HN1.out, HN2.out, q2]; exact beq_self_eq_true _, beq_eq_false_iff_ne.2 (fun q3 => hq (by rw [q1, q2, q3]))⟩)
                · exact .inr (.inl ⟨beq_iff_eq.2 q1, HNE.out q2⟩)
              · exact .inl (beq_eq_false_iff_ne.2 q1)
          have e1 : (bs (txtO ⟨k1, m1, u1⟩)).toList.isEmpty = false := by
            rw [ByteArray.toList_eq, bs_toList]
            cases hh : txtO ⟨k1, m1, u1⟩ with
            | nil => exact absurd hh hne
            | cons _ _ => rfl
          have e2 : ((bs (txtO ⟨k1, m1, u1⟩)).toList == []) = false := by rw [ByteArray.toList_eq, bs_toList]; exact beq_eq_false_iff_ne.2 hne
          generalize bs (txtO ⟨k1, m1, u1⟩) = SA at *
          generalize bs (txtO ⟨k2, m2, u2⟩) = SB at *
          clear hne HNE HGA HGB hs1 hs2 d1 d2
          have c0 := cellC HX3.out 0
          have c1 := cellC HY3.out 0
          go_upto_region 3 with (fail)
          clear c0 c1
          have HK : Hid (Below w.heap.size w w3.drew) := Lib.hid (below_drewC HB3.out 1)
          have HQ : Hid (w3.drew.heap[w.heap.size]? = some (.cells #[.int .i64 k1, .string N1, .int .i64 u1] 26 (0, 0))) := Lib.hid HX3.out
          have HR : Hid (w3.drew.heap[w.heap.size + 1]? = some (.cells #[.int .i64 k2, .string N2, .int .i64 u2] 26 (0, 0))) := Lib.hid HY3.out
          obtain ⟨x0, x1, x2⟩ := box3c HQ.out
          obtain ⟨y0, y1, y2⟩ := box3c HR.out
          rcases hcs with ⟨q1, q2, q3, b1⟩ | ⟨q1 | ⟨q1, q2⟩ | ⟨q1, q2, q3⟩, b1⟩
          all_goals
            go_region_held3 (fun w' => w'.cell? ⟨w.heap.size, 0, none⟩ = some (.int .i64 k1) ∧ w'.cell? ⟨w.heap.size, 1, none⟩ = some (.string N1) ∧ w'.cell? ⟨w.heap.size, 2, none⟩ = some (.int .i64 u1) ∧ w'.cell? ⟨w.heap.size + 1, 0, none⟩ = some (.int .i64 k2) ∧ w'.cell? ⟨w.heap.size + 1, 1, none⟩ = some (.string N2) ∧ w'.cell? ⟨w.heap.size + 1, 2, none⟩ = some (.int .i64 u2))
              (with_reducible exact ⟨x0, x1, x2, y0, y1, y2⟩)
              (first | (go_at_call 11; ((first | (with_reducible refine (HT1.out _ HK.out).mono ?_) | (with_reducible refine (HT2.out _ HK.out).mono ?_)); rintro e w5 ⟨rfl, hb⟩; have HQ := Lib.hid (box3 hb (blkLt HQ.out) HQ.out); have HR := Lib.hid (box3 hb (blkLt HR.out) HR.out); have HK := Lib.hid (HK.out.trans (hb.mono HK.out.size)); have x0 : w5.cell? ⟨w.heap.size, 0, none⟩ = some (.int .i64 k1) := cellC HQ.out 0; have x1 : w5.cell? ⟨w.heap.size, 1, none⟩ = some (.string N1) := cellC HQ.out 1; have x2 : w5.cell? ⟨w.heap.size, 2, none⟩ = some (.int .i64 u1) := cellC HQ.out 2; have y0 : w5.cell? ⟨w.heap.size + 1, 0, none⟩ = some (.int .i64 k2) := cellC HR.out 0; have y1 : w5.cell? ⟨w.heap.size + 1, 1, none⟩ = some (.string N2) := cellC HR.out 1; have y2 : w5.cell? ⟨w.heap.size + 1, 2, none⟩ = some (.int .i64 u2) := cellC HR.out 2; clear hb)))
            go_wp2
            go_ret
            exact ⟨rfl, HK.out⟩
end Go.Proofs.YtdknejmhlfpdfaaDoor
