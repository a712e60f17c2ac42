/-
  The statement OrderLongs, walked.
-/
import Derived.Test.YtdknejmhlfpdfaaDoorOrLb
namespace Go.Proofs.YtdknejmhlfpdfaaDoor
open Go.RowKit

theorem ord_longs (t : List UInt8) (n : Nat) : (200 < (t ++ List.replicate n 32).length → (ordM (t ++ List.replicate n 32)).2 = 1) ∧ (¬ 200 < (t ++ List.replicate n 32).length → ordM (t ++ List.replicate n 32) = ordM t) := by
  refine ⟨fun h => by unfold ordM; rw [if_pos h], fun h => ?_⟩
  have h2 : ¬ 200 < t.length := by rw [List.length_append] at h; omega
  unfold ordM
  rw [if_neg h, if_neg h2]
  have := ws_around [] t (List.replicate n 32) (by simp) (fun c hc => .inl (List.eq_of_mem_replicate hc))
  rw [List.nil_append] at this
  rw [this]
set_option maxRecDepth 100000 in
set_option maxHeartbeats 4000000 in
theorem orderLongs_law {X : World → Prop} (HP : PaC X) (HK : KeC X) (a : ByteArray) (n : Nat) (hn : n ≤ 255) (w : World) (hX : X w) :
    Calls Tryd.prog 6 #[.string a, .int .u8 n] w fun e w' => e = .returned (.bool true) ∧ Below w.heap.size w w' := by
  have hK := Lib.hid (fun W (hb : Below w.heap.size w W) => HK w W _ hX hb (Nat.le_refl _))
  have HAW := Lib.hid (fun W (hb : Below w.heap.size w W) => ordAwake_calls HP W (hK.out W hb))
  obtain ⟨t, rfl⟩ : ∃ t, a = bs t := ⟨a.data.toList, by apply WideShapes.bytes_inj; rw [bs_toList]⟩
  have hsz : (bs t).size = t.length := bs_size t
  have hn0 : (0 : Int) ≤ (n : Int) := by omega
  have hn1 : (n : Int) ≤ 255 := by omega
  by_cases hl : 300 < t.length
  · have d1 : decide ((300 : Int) < (t.length : Int)) = true := decide_eq_true (by omega)
    generalize bs t = S at *
    go_enter Tryd.func6, Tryd.ntmps6
    go_wp2_with fail
    refine (HAW.out _ (Below.refl _ _)).mono ?_
    rintro e w1 ⟨rfl, hB1⟩
    have HB1 := Lib.hid hB1
    clear hB1
    go_wp2_with fail
    refine (HAW.out _ HB1.out).mono ?_
    rintro e w2 ⟨rfl, hB2⟩
    have HB2 := Lib.hid (HB1.out.trans (hB2.mono HB1.out.size))
    clear hB2
    go_wp2
    go_ret
    exact ⟨rfl, HB2.out⟩
  · have d1 : decide ((300 : Int) < (t.length : Int)) = false := decide_eq_false (by omega)
    have HPT := Lib.hid (fun W (hb : Below w.heap.size w W) => HP t (by omega) W (hK.out W hb))
    have hul : (t ++ List.replicate n 32).length ≤ 1000 := by rw [List.length_append, List.length_replicate]; omega
    have hus : (bs (t ++ List.replicate n 32)).size = (t ++ List.replicate n 32).length := bs_size _
    have HPU := Lib.hid (fun W (hb : Below w.heap.size w W) => HP (t ++ List.replicate n 32) (by omega) W (hK.out W hb))
    have HL := Lib.hid (ord_longs t n)
    have HSN := Lib.hid (fun j => bs_app (t ++ List.replicate j 32) [32])
    have H0 : Hid (bs t = bs (t ++ List.replicate 0 32)) := Lib.hid (by simp)
    generalize hS : bs t = S at *
    have HS := Lib.hid hS
    clear hS
    go_enter Tryd.func6, Tryd.ntmps6
    go_wp2_with fail
    refine (HAW.out _ (Below.refl _ _)).mono ?_
    rintro e w1 ⟨rfl, hB1⟩
    have HB1 := Lib.hid hB1
    clear hB1
    go_wp2
    go_loopw [5, 21] (fun s i wr => ∃ (j : Nat) (D : ByteArray), j ≤ n ∧ i = .int .i64 j ∧ s = .string D ∧ Hid (D = bs (t ++ List.replicate j 32)) ∧ wr = w1) (fun _ i _ => n - (intOf i).toNat)
    case atStart => exact ⟨0, S, by omega, rfl, rfl, H0, rfl⟩
    case round =>
      obtain ⟨j, D, hj, rfl, rfl, HD, rfl⟩ := hrel
      by_cases hlt : j < n
      · have hDz : D.size ≤ 1000 := by rw [HD.out, bs_size, List.length_append, List.length_replicate]; omega
        have g1 : (9223372036854775807 < D.size + 1) = False := eq_false (by omega)
        have HD2 : Hid (D ++ ⟨#[32]⟩ = bs (t ++ List.replicate (j + 1) 32)) := Lib.hid (by
          rw [HD.out, show (⟨#[32]⟩ : ByteArray) = bs [32] from rfl, HSN.out, List.append_assoc, ← List.replicate_succ'])
        go_wp2
        go_roundw
        case rel => exact ⟨j + 1, _, by omega, by go_num, rfl, HD2, trivial⟩
        case measure => simp [intOf]; omega
      · obtain rfl : j = n := by omega
        obtain rfl := HD.out
        clear HD HSN H0
        generalize ordM (t ++ List.replicate j 32) = r at *
        generalize ordM t = q at *
        generalize bs (t ++ List.replicate j 32) = U at *
        generalize (t ++ List.replicate j 32).length = ul at *
        obtain ⟨⟨k1, m1, u1⟩, c1⟩ := r
        obtain ⟨⟨k2, m2, u2⟩, c2⟩ := q
        unfold ordV at HPT HPU
        dsimp only at HPT HPU HL
        generalize bs m1 = N1 at *
        generalize bs m2 = N2 at *
        go_wp2_with fail
        refine (HPU.out _ HB1.out).mono ?_
        rintro e w2 ⟨rfl, hB2⟩
        have HB2 := Lib.hid (HB1.out.trans (hB2.mono HB1.out.size))
        clear hB2
        have HB2a := Lib.hid (HB2.out.alloc HB2.out.size (.cells #[.int .i64 k1, .string N1, .int .i64 u1] 26))
        go_wp2_with fail
        generalize w2.alloc (.cells #[.int .i64 k1, .string N1, .int .i64 u1] 26) = w3 at *
        refine (HPT.out _ HB2a.out).mono ?_
        rintro e w4 ⟨rfl, hB4⟩
        have HB4 := Lib.hid (HB2a.out.trans (hB4.mono HB2a.out.size))
        clear hB4
        have HB4a := Lib.hid (HB4.out.alloc HB4.out.size (.cells #[.int .i64 k2, .string N2, .int .i64 u2] 26))
        by_cases hq : 200 < ul
        · have e1 := HL.out.1 hq
          subst e1
          have d2 : decide ((200 : Int) < (ul : Int)) = true := decide_eq_true (by omega)
          have d3 : decide (200 < ul) = true := decide_eq_true hq
          clear HL
          go_wp2
          go_ret
          exact ⟨rfl, HB4a.out⟩
        · have e1 := HL.out.2 hq
          injection e1 with _ e1
          subst e1
          have d2 : decide ((200 : Int) < (ul : Int)) = false := decide_eq_false (by omega)
          have d3 : decide (200 < ul) = false := decide_eq_false hq
          clear HL
          go_wp2
          go_ret
          exact ⟨rfl, HB4a.out⟩
end Go.Proofs.YtdknejmhlfpdfaaDoor
