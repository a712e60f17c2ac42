/-
  PageGoods: for every span and every size the statement answers true, and its arguments read as before. No condition.
-/
import Derived.Test.YtjimkfniahndhaaRows
import Derived.WalkKit
import Derived.ProofKit
import Derived.OpenShut
import Derived.ShutString
import Derived.Lib.SmallJoins
import Derived.Test.YtjimkfniahndhaaLits
namespace Go.Proofs.Ytjimkfniahndhaa.pageGoods
open Go.ChangeShapes Go.WideShapes Go.ChangeAt Go.RowKit Go.Proofs.Ytjimkfniahndhaa Go.Joins
open Go.ChangeMaps (open_string shut_string)
set_option linter.unusedVariables false

theorem own : ownKnob Try.prog.godebug = none := by kernel_rfl

set_option maxRecDepth 100000 in
set_option maxHeartbeats 1000000 in
/-- PageGoods answers true, and leaves what there was. -/
theorem walk (x1 x2 : Int) (m : Nat) (hm : m ≤ 255) (w : World) :
    Calls Try.prog 9 #[.agg #[.int .i64 x1, .int .i64 x2], .int .u8 m] w fun e w' => e = .returned (.bool true) ∧ Below w.heap.size w w' := by
  obtain ⟨M, hmk, hcv⟩ := make_zeros m (by omega)
  by_cases h1 : 0 ≤ x1
  · by_cases h2 : x1 ≤ x2
    · by_cases h3 : x2 ≤ m
      · have hg : goodB (x1, x2) (m : Int) = true := by simp [goodB]; omega
        have hcall := Lib.hid (fun W => good_calls (x1, x2) (m : Int) W)
        rw [hg] at hcall
        have hbl := Lib.hid (fun (A : Option Addr) (W : World) hx => blank_yes (zeros m) (by rw [zeros_size]; omega) A 1 1 [(x1, x2)] (by omega) (fun y hy => by simp at hy; subst hy; rw [zeros_size]; exact hg) W hx)
        clear hg
        go_enter Try.func9, Try.ntmps9
        go_wp2_with fail
        refine (awake_calls _).mono ?_
        rintro e w1 ⟨rfl, hB1⟩
        have hs1 := hB1.size
        have hc0 : w1.cell? ⟨w.heap.size, 0, none⟩ = some (.int .i64 x1) := (hB1.cell (p := ⟨w.heap.size, 0, none⟩) (by simp)).trans (row_cell (by simp))
        have hc1 : w1.cell? ⟨w.heap.size, 1, none⟩ = some (.int .i64 x2) := (hB1.cell (p := ⟨w.heap.size, 1, none⟩) (by simp)).trans (row_cell (by simp))
        simp at hs1
        have hd0 : (w1.alloc (.cells M 5)).cell? ⟨w.heap.size, 0, none⟩ = some (.int .i64 x1) := (World.cell?_alloc_lt w1 _ ⟨w.heap.size, 0, none⟩ (by simp; omega)).trans hc0
        have hd1 : (w1.alloc (.cells M 5)).cell? ⟨w.heap.size, 1, none⟩ = some (.int .i64 x2) := (World.cell?_alloc_lt w1 _ ⟨w.heap.size, 1, none⟩ (by simp; omega)).trans hc1
        go_wp2_with fail
        have hsp := spAt_lit1 (w1.alloc (.cells M 5)) x1 x2
        rw [World.size_alloc] at hsp
        refine (hbl.out _ _ (by simpa using hsp)).mono ?_
        rintro e w2 ⟨rfl, hB2⟩
        have hB2' : Below (w1.heap.size + 1 + 1) ((w1.alloc (.cells M 5)).alloc (.cells #[.int .i64 x1, .int .i64 x2] 41)) w2 := by simpa using hB2
        have hs2 := hB2'.size
        simp at hs2
        have he0 : w2.cell? ⟨w.heap.size, 0, none⟩ = some (.int .i64 x1) := (hB2'.cell (p := ⟨w.heap.size, 0, none⟩) (by simp; omega)).trans ((World.cell?_alloc_lt _ _ ⟨w.heap.size, 0, none⟩ (by simp; omega)).trans hd0)
        have he1 : w2.cell? ⟨w.heap.size, 1, none⟩ = some (.int .i64 x2) := (hB2'.cell (p := ⟨w.heap.size, 1, none⟩) (by simp; omega)).trans ((World.cell?_alloc_lt _ _ ⟨w.heap.size, 1, none⟩ (by simp; omega)).trans hd1)
        go_wp2_with (go_at_call 18; refine (hcall.out _).mono ?_; rintro e w3 ⟨rfl, rfl⟩)
        go_ret
        have hBa : Below w.heap.size w w1 := ((Below.refl _ w).alloc (Nat.le_refl _) _).trans (hB1.mono (by simp))
        exact ⟨rfl, (((hBa.alloc (by omega) _).alloc (by simp; omega) _).trans (hB2'.mono (by omega))).alloc (by omega) _⟩
      · have h3' : decide (x2 ≤ (m : Int)) = false := by simp; omega
        have hg : goodB (x1, x2) (m : Int) = false := by simp [goodB]; omega
        have hcall := Lib.hid (fun W => good_calls (x1, x2) (m : Int) W)
        rw [hg] at hcall
        have hbl := Lib.hid (fun (A : Option Addr) (W : World) hx => blank_no (zeros m) A 1 1 [(x1, x2)] (by omega) (fun h => by have := h (x1, x2) (by simp); rw [zeros_size, hg] at this; cases this) W hx)
        clear hg
        go_enter Try.func9, Try.ntmps9
        go_wp2_with fail
        refine (awake_calls _).mono ?_
        rintro e w1 ⟨rfl, hB1⟩
        have hs1 := hB1.size
        have hc0 : w1.cell? ⟨w.heap.size, 0, none⟩ = some (.int .i64 x1) := (hB1.cell (p := ⟨w.heap.size, 0, none⟩) (by simp)).trans (row_cell (by simp))
        have hc1 : w1.cell? ⟨w.heap.size, 1, none⟩ = some (.int .i64 x2) := (hB1.cell (p := ⟨w.heap.size, 1, none⟩) (by simp)).trans (row_cell (by simp))
        simp at hs1
        have hd0 : (w1.alloc (.cells M 5)).cell? ⟨w.heap.size, 0, none⟩ = some (.int .i64 x1) := (World.cell?_alloc_lt w1 _ ⟨w.heap.size, 0, none⟩ (by simp; omega)).trans hc0
        have hd1 : (w1.alloc (.cells M 5)).cell? ⟨w.heap.size, 1, none⟩ = some (.int .i64 x2) := (World.cell?_alloc_lt w1 _ ⟨w.heap.size, 1, none⟩ (by simp; omega)).trans hc1
        go_wp2_with fail
        have hsp := spAt_lit1 (w1.alloc (.cells M 5)) x1 x2
        rw [World.size_alloc] at hsp
        refine (hbl.out _ _ (by simpa using hsp)).mono ?_
        rintro e w2 ⟨rfl, hB2⟩
        have hB2' : Below (w1.heap.size + 1 + 1) ((w1.alloc (.cells M 5)).alloc (.cells #[.int .i64 x1, .int .i64 x2] 41)) w2 := by simpa using hB2
        have hs2 := hB2'.size
        simp at hs2
        have he0 : w2.cell? ⟨w.heap.size, 0, none⟩ = some (.int .i64 x1) := (hB2'.cell (p := ⟨w.heap.size, 0, none⟩) (by simp; omega)).trans ((World.cell?_alloc_lt _ _ ⟨w.heap.size, 0, none⟩ (by simp; omega)).trans hd0)
        have he1 : w2.cell? ⟨w.heap.size, 1, none⟩ = some (.int .i64 x2) := (hB2'.cell (p := ⟨w.heap.size, 1, none⟩) (by simp; omega)).trans ((World.cell?_alloc_lt _ _ ⟨w.heap.size, 1, none⟩ (by simp; omega)).trans hd1)
        go_wp2_with (go_at_call 18; refine (hcall.out _).mono ?_; rintro e w3 ⟨rfl, rfl⟩)
        go_ret
        have hBa : Below w.heap.size w w1 := ((Below.refl _ w).alloc (Nat.le_refl _) _).trans (hB1.mono (by simp))
        exact ⟨rfl, (((hBa.alloc (by omega) _).alloc (by simp; omega) _).trans (hB2'.mono (by omega))).alloc (by omega) _⟩
    · have h2' : decide (x1 ≤ x2) = false := by simp; omega
      have hg : goodB (x1, x2) (m : Int) = false := by simp [goodB]; omega
      have hcall := Lib.hid (fun W => good_calls (x1, x2) (m : Int) W)
      rw [hg] at hcall
      have hbl := Lib.hid (fun (A : Option Addr) (W : World) hx => blank_no (zeros m) A 1 1 [(x1, x2)] (by omega) (fun h => by have := h (x1, x2) (by simp); rw [zeros_size, hg] at this; cases this) W hx)
      clear hg
      go_enter Try.func9, Try.ntmps9
      go_wp2_with fail
      refine (awake_calls _).mono ?_
      rintro e w1 ⟨rfl, hB1⟩
      have hs1 := hB1.size
      have hc0 : w1.cell? ⟨w.heap.size, 0, none⟩ = some (.int .i64 x1) := (hB1.cell (p := ⟨w.heap.size, 0, none⟩) (by simp)).trans (row_cell (by simp))
      have hc1 : w1.cell? ⟨w.heap.size, 1, none⟩ = some (.int .i64 x2) := (hB1.cell (p := ⟨w.heap.size, 1, none⟩) (by simp)).trans (row_cell (by simp))
      simp at hs1
      have hd0 : (w1.alloc (.cells M 5)).cell? ⟨w.heap.size, 0, none⟩ = some (.int .i64 x1) := (World.cell?_alloc_lt w1 _ ⟨w.heap.size, 0, none⟩ (by simp; omega)).trans hc0
      have hd1 : (w1.alloc (.cells M 5)).cell? ⟨w.heap.size, 1, none⟩ = some (.int .i64 x2) := (World.cell?_alloc_lt w1 _ ⟨w.heap.size, 1, none⟩ (by simp; omega)).trans hc1
      go_wp2_with fail
      have hsp := spAt_lit1 (w1.alloc (.cells M 5)) x1 x2
      rw [World.size_alloc] at hsp
      refine (hbl.out _ _ (by simpa using hsp)).mono ?_
      rintro e w2 ⟨rfl, hB2⟩
      have hB2' : Below (w1.heap.size + 1 + 1) ((w1.alloc (.cells M 5)).alloc (.cells #[.int .i64 x1, .int .i64 x2] 41)) w2 := by simpa using hB2
      have hs2 := hB2'.size
      simp at hs2
      have he0 : w2.cell? ⟨w.heap.size, 0, none⟩ = some (.int .i64 x1) := (hB2'.cell (p := ⟨w.heap.size, 0, none⟩) (by simp; omega)).trans ((World.cell?_alloc_lt _ _ ⟨w.heap.size, 0, none⟩ (by simp; omega)).trans hd0)
      have he1 : w2.cell? ⟨w.heap.size, 1, none⟩ = some (.int .i64 x2) := (hB2'.cell (p := ⟨w.heap.size, 1, none⟩) (by simp; omega)).trans ((World.cell?_alloc_lt _ _ ⟨w.heap.size, 1, none⟩ (by simp; omega)).trans hd1)
      go_wp2_with (go_at_call 18; refine (hcall.out _).mono ?_; rintro e w3 ⟨rfl, rfl⟩)
      go_ret
      have hBa : Below w.heap.size w w1 := ((Below.refl _ w).alloc (Nat.le_refl _) _).trans (hB1.mono (by simp))
      exact ⟨rfl, (((hBa.alloc (by omega) _).alloc (by simp; omega) _).trans (hB2'.mono (by omega))).alloc (by omega) _⟩
  · have h1' : decide (0 ≤ x1) = false := by simp; omega
    have hg : goodB (x1, x2) (m : Int) = false := by simp [goodB]; omega
    have hcall := Lib.hid (fun W => good_calls (x1, x2) (m : Int) W)
    rw [hg] at hcall
    have hbl := Lib.hid (fun (A : Option Addr) (W : World) hx => blank_no (zeros m) A 1 1 [(x1, x2)] (by omega) (fun h => by have := h (x1, x2) (by simp); rw [zeros_size, hg] at this; cases this) W hx)
    clear hg
    go_enter Try.func9, Try.ntmps9
    go_wp2_with fail
    refine (awake_calls _).mono ?_
    rintro e w1 ⟨rfl, hB1⟩
    have hs1 := hB1.size
    have hc0 : w1.cell? ⟨w.heap.size, 0, none⟩ = some (.int .i64 x1) := (hB1.cell (p := ⟨w.heap.size, 0, none⟩) (by simp)).trans (row_cell (by simp))
    have hc1 : w1.cell? ⟨w.heap.size, 1, none⟩ = some (.int .i64 x2) := (hB1.cell (p := ⟨w.heap.size, 1, none⟩) (by simp)).trans (row_cell (by simp))
    simp at hs1
    have hd0 : (w1.alloc (.cells M 5)).cell? ⟨w.heap.size, 0, none⟩ = some (.int .i64 x1) := (World.cell?_alloc_lt w1 _ ⟨w.heap.size, 0, none⟩ (by simp; omega)).trans hc0
    have hd1 : (w1.alloc (.cells M 5)).cell? ⟨w.heap.size, 1, none⟩ = some (.int .i64 x2) := (World.cell?_alloc_lt w1 _ ⟨w.heap.size, 1, none⟩ (by simp; omega)).trans hc1
    go_wp2_with fail
    have hsp := spAt_lit1 (w1.alloc (.cells M 5)) x1 x2
    rw [World.size_alloc] at hsp
    refine (hbl.out _ _ (by simpa using hsp)).mono ?_
    rintro e w2 ⟨rfl, hB2⟩
    have hB2' : Below (w1.heap.size + 1 + 1) ((w1.alloc (.cells M 5)).alloc (.cells #[.int .i64 x1, .int .i64 x2] 41)) w2 := by simpa using hB2
    have hs2 := hB2'.size
    simp at hs2
    have he0 : w2.cell? ⟨w.heap.size, 0, none⟩ = some (.int .i64 x1) := (hB2'.cell (p := ⟨w.heap.size, 0, none⟩) (by simp; omega)).trans ((World.cell?_alloc_lt _ _ ⟨w.heap.size, 0, none⟩ (by simp; omega)).trans hd0)
    have he1 : w2.cell? ⟨w.heap.size, 1, none⟩ = some (.int .i64 x2) := (hB2'.cell (p := ⟨w.heap.size, 1, none⟩) (by simp; omega)).trans ((World.cell?_alloc_lt _ _ ⟨w.heap.size, 1, none⟩ (by simp; omega)).trans hd1)
    go_wp2_with (go_at_call 18; refine (hcall.out _).mono ?_; rintro e w3 ⟨rfl, rfl⟩)
    go_ret
    have hBa : Below w.heap.size w w1 := ((Below.refl _ w).alloc (Nat.le_refl _) _).trans (hB1.mono (by simp))
    exact ⟨rfl, (((hBa.alloc (by omega) _).alloc (by simp; omega) _).trans (hB2'.mono (by omega))).alloc (by omega) _⟩

theorem Try.cells41 : Try.prog.cellsOf 41 = 2 := by kernel_rfl

set_option maxRecDepth 100000 in
theorem lifted (os : Os) (started : os.Started) (H : Type) (enc : TypeId × Value → H) :
    ReturnsInHanded {} Try.checked os 9 .any (Rows.pageGoodsSpec.pre6 enc Try.prog Try.f9 Rows.pageGoodsRow.domain false) (Rows.pageGoodsSpec.post enc Try.prog Try.f9 false true false false) := by
  refine returnsInHanded_of_change (C := Try.checked) own started (by kernel_rfl) Try.func9
    (ChangeSpec.witness6 (enc := enc) (C := Try.checked) false ⟨#[], #[.agg #[.int .i64 0, .int .i64 0], .int .u8 0], []⟩ 8 (by kernel_rfl) (by kernel_rfl) (by kernel_rfl) (by kernel_rfl)) ?_
  intro W base args ds gs before hval0 hW hcnd _
  have hval : ∀ (j : Nat) t v, Try.f9.params[j]? = some t → args[j]? = some v → Value.okWide Try.prog W .any base t v := hval0
  have hW' := hW
  obtain ⟨p, q, hA0, hV, rfl, hfz, hnd⟩ := hW
  have hA : DataW.TrodAll enc Try.prog W 0 (fun _ => true) true Try.f9.params.toList args.toList ds p := hA0
  rw [Try.params9] at hA hval
  obtain ⟨v0, vs0, d0, ds0, p0, q0, hargs, rfl, rfl, h0, r0⟩ := trodAll_cons hA
  obtain ⟨v1, vs1, d1, ds1, p1, q1, rfl, rfl, rfl, h1, r1⟩ := trodAll_cons r0
  obtain ⟨rfl, rfl, rfl⟩ := trodAll_nil r1
  obtain rfl : args = #[v0, v1] := by cases args; simp_all
  obtain ⟨rfl, rfl⟩ := trodVars_none hV
  obtain ⟨c0, c1, y0, y1, mm, rfl, rfl, rfl, hy0, hy1⟩ := open_agg2 Try.underlying41 (by kernel_rfl) Try.cells41 (hval 0 41 v0 rfl rfl) h0
  obtain ⟨x1, e0, rfl, wx1⟩ := DataW.trod_int Try.underlying3 hy0
  obtain ⟨x2, e1, rfl, wx2⟩ := DataW.trod_int Try.underlying3 hy1
  simp at e0 e1
  subst e0 e1
  obtain ⟨a1, rfl, rfl, rfl, w1⟩ := open_int Try.underlying5 (hval 1 5 v1 rfl rfl) h1
  clear hA0 hval0
  simp only [List.append_nil] at hW'
  obtain ⟨g0, g1⟩ := bounds_u8 w1
  obtain ⟨m, rfl⟩ := Int.eq_ofNat_of_zero_le g0
  refine (walk x1 x2 m (by omega) W).mono fun e W' ⟨he, hg⟩ => ?_
  subst he
  exact ⟨_, rfl, _, _, _, [], [], [], hW', trodAll_cons_mk (shut_bool Try.underlying4 _) trodAll_mk0, trodAll_cons_mk (shut_agg2 (y0 := (.lit (.int .i64 x1), [])) (y1 := (.lit (.int .i64 x2), [])) Try.underlying41 (by kernel_rfl) Try.cells41 ⟨1, by simp [DataW.trod, Try.underlying3, wx1]⟩ ⟨1, by simp [DataW.trod, Try.underlying3, wx2]⟩) (trodAll_cons_mk (shut_int Try.underlying5 w1) trodAll_mk0), rfl, hg.frame _, fun h => by cases h⟩

theorem over : Rows.pageGoodsRow.holds Try.pinned (OpenSpec.ofChange Rows.pageGoodsSpec) :=
  OpenClaim.holds_of_wide 9 Try.f9 rfl rfl rfl rfl rfl rfl rfl ⟨rfl, rfl, rfl, rfl, rfl⟩ rfl rfl rfl rfl rfl (by kernel_rfl) Try.func9 (by kernel_rfl)
    (of_decide_eq_true (by kernel_rfl)) (by unfold Func.isWrapper; first | (rw [if_pos (by decide +kernel)]; kernel_rfl) | (rw [if_neg (by decide +kernel)]; exact ⟨rfl, rfl⟩))
    (fun os started H enc _ => lifted os started H enc)

theorem proved : Rows.PageGoodsSaid :=
  over
#print axioms proved

end Go.Proofs.Ytjimkfniahndhaa.pageGoods
