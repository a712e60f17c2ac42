/-
  PageCuts: for every text and every span the statement answers true, and its arguments read as before. No condition.
-/
import Derived.Test.YtjimkfniahndhaaRows
import Derived.WalkKit
import Derived.WalkSpells
import Derived.ProofKit
import Derived.OpenShut
import Derived.ShutString
import Derived.Lib.SmallJoins
import Derived.Test.YtjimkfniahndhaaLits
import Derived.Test.YtjimkfniahndhaaCut
namespace Go.Proofs.Ytjimkfniahndhaa.pageCuts
open Go.ChangeShapes Go.WideShapes Go.ChangeAt Go.RowKit Go.Proofs.Ytjimkfniahndhaa Go.Joins
open Go.ChangeMaps (open_string shut_string)
set_option linter.unusedVariables false

theorem own : ownKnob Try.prog.godebug = none := by kernel_rfl
theorem Try.cells41 : Try.prog.cellsOf 41 = 2 := by kernel_rfl

theorem blank_cut (s : ByteArray) (a b : Nat) (h1 : a ≤ b) (h2 : b ≤ s.size) : (blankS s [((a : Int), (b : Int))]).extract a b = s.extract a b := by
  have hz := blankS_size s [((a : Int), (b : Int))]
  apply ByteArray.ext_getElem
  · simp only [ByteArray.size_extract, hz]
  · intro i g1 g2
    rw [ByteArray.getElem_extract, ByteArray.getElem_extract]
    have hi : a + i < s.size := by simp at g2; omega
    have e : (blankS s [((a : Int), (b : Int))])[a + i]'(by rw [hz]; exact hi) = (blankL s.data.toList [((a : Int), (b : Int))])[a + i]'(by rw [blankL_length]; simpa using hi) := rfl
    rw [e, blankL_get _ _ _ (by simpa using hi)]
    have : inB [((a : Int), (b : Int))] ((a + i : Nat) : Int) = true := by
      simp at g2
      simp [inB]; omega
    rw [this]
    simp
    rfl

set_option maxRecDepth 100000 in
set_option maxHeartbeats 1000000 in
/-- PageCuts answers true, and leaves what there was. -/
theorem walk (s : ByteArray) (x1 x2 : Int) (w : World) :
    Calls Try.prog 7 #[.string s, .agg #[.int .i64 x1, .int .i64 x2]] w fun e w' => e = .returned (.bool true) ∧ Below w.heap.size w w' := by
  by_cases hs : s.size ≤ 300
  · have hsd : decide (300 < s.size) = false := by simp; omega
    by_cases h1 : x1 < 0
    · go_enter Try.func7, Try.ntmps7
      go_wp2_with fail
      refine (awake_calls _).mono ?_
      rintro e w1 ⟨rfl, hB1⟩
      have hs1 := hB1.size
      have hc0 : w1.cell? ⟨w.heap.size, 0, none⟩ = some (.int .i64 x1) := (hB1.cell (p := ⟨w.heap.size, 0, none⟩) (by simp)).trans (row_cell (by simp))
      have hc1 : w1.cell? ⟨w.heap.size, 1, none⟩ = some (.int .i64 x2) := (hB1.cell (p := ⟨w.heap.size, 1, none⟩) (by simp)).trans (row_cell (by simp))
      simp at hs1
      have hBa : Below w.heap.size w w1 := ((Below.refl _ w).alloc (Nat.le_refl _) _).trans (hB1.mono (by simp))
      go_wp2_with fail
      refine (awake_calls _).mono ?_
      rintro e w2 ⟨rfl, hB2⟩
      go_wp2
      go_ret
      exact ⟨rfl, hBa.trans (hB2.mono hBa.size)⟩
    · have h1' : decide (x1 < 0) = false := by simp; omega
      by_cases h2 : x2 < x1
      · go_enter Try.func7, Try.ntmps7
        go_wp2_with fail
        refine (awake_calls _).mono ?_
        rintro e w1 ⟨rfl, hB1⟩
        have hs1 := hB1.size
        have hc0 : w1.cell? ⟨w.heap.size, 0, none⟩ = some (.int .i64 x1) := (hB1.cell (p := ⟨w.heap.size, 0, none⟩) (by simp)).trans (row_cell (by simp))
        have hc1 : w1.cell? ⟨w.heap.size, 1, none⟩ = some (.int .i64 x2) := (hB1.cell (p := ⟨w.heap.size, 1, none⟩) (by simp)).trans (row_cell (by simp))
        simp at hs1
        have hBa : Below w.heap.size w w1 := ((Below.refl _ w).alloc (Nat.le_refl _) _).trans (hB1.mono (by simp))
        go_wp2_with fail
        refine (awake_calls _).mono ?_
        rintro e w2 ⟨rfl, hB2⟩
        go_wp2
        go_ret
        exact ⟨rfl, hBa.trans (hB2.mono hBa.size)⟩
      · have h2' : decide (x2 < x1) = false := by simp; omega
        by_cases h3 : (s.size : Int) < x2
        · go_enter Try.func7, Try.ntmps7
          go_wp2_with fail
          refine (awake_calls _).mono ?_
          rintro e w1 ⟨rfl, hB1⟩
          have hs1 := hB1.size
          have hc0 : w1.cell? ⟨w.heap.size, 0, none⟩ = some (.int .i64 x1) := (hB1.cell (p := ⟨w.heap.size, 0, none⟩) (by simp)).trans (row_cell (by simp))
          have hc1 : w1.cell? ⟨w.heap.size, 1, none⟩ = some (.int .i64 x2) := (hB1.cell (p := ⟨w.heap.size, 1, none⟩) (by simp)).trans (row_cell (by simp))
          simp at hs1
          have hBa : Below w.heap.size w w1 := ((Below.refl _ w).alloc (Nat.le_refl _) _).trans (hB1.mono (by simp))
          go_wp2_with fail
          refine (awake_calls _).mono ?_
          rintro e w2 ⟨rfl, hB2⟩
          go_wp2
          go_ret
          exact ⟨rfl, hBa.trans (hB2.mono hBa.size)⟩
        · have h3' : decide ((s.size : Int) < x2) = false := by simp; omega
          obtain ⟨a, rfl⟩ := Int.eq_ofNat_of_zero_le (show 0 ≤ x1 by omega)
          obtain ⟨b, rfl⟩ := Int.eq_ofNat_of_zero_le (show 0 ≤ x2 by omega)
          go_enter Try.func7, Try.ntmps7
          go_wp2_with fail
          refine (awake_calls _).mono ?_
          rintro e w1 ⟨rfl, hB1⟩
          have hs1 := hB1.size
          have hc0 : w1.cell? ⟨w.heap.size, 0, none⟩ = some (.int .i64 a) := (hB1.cell (p := ⟨w.heap.size, 0, none⟩) (by simp)).trans (row_cell (by simp))
          have hc1 : w1.cell? ⟨w.heap.size, 1, none⟩ = some (.int .i64 b) := (hB1.cell (p := ⟨w.heap.size, 1, none⟩) (by simp)).trans (row_cell (by simp))
          simp at hs1
          have hBa : Below w.heap.size w w1 := ((Below.refl _ w).alloc (Nat.le_refl _) _).trans (hB1.mono (by simp))
          go_wp2_with fail
          refine (cut_calls s (by omega) a b (by omega) (by omega) _).mono ?_
          rintro e w2 ⟨rfl, hB2⟩
          have hd0 : w2.cell? ⟨w.heap.size, 0, none⟩ = some (.int .i64 a) := (hB2.cell (p := ⟨w.heap.size, 0, none⟩) (by simp; omega)).trans hc0
          have hd1 : w2.cell? ⟨w.heap.size, 1, none⟩ = some (.int .i64 b) := (hB2.cell (p := ⟨w.heap.size, 1, none⟩) (by simp; omega)).trans hc1
          have hs2 := hB2.size
          have hbl := Lib.hid (fun (A : Option Addr) (W : World) hx => blank_yes s (by omega) A 1 1 [((a : Int), (b : Int))] (by omega) (fun y hy => by simp at hy; subst hy; simp [goodB]; omega) W hx)
          go_wp2_with fail
          have hsp := spAt_lit1 w2 a b
          refine (hbl.out _ _ (by simpa using hsp)).mono ?_
          rintro e w3 ⟨rfl, hB3⟩
          have hB3' : Below (w2.heap.size + 1) (w2.alloc (.cells #[.int .i64 a, .int .i64 b] 41)) w3 := by simpa using hB3
          have he0 : w3.cell? ⟨w.heap.size, 0, none⟩ = some (.int .i64 a) := (hB3'.cell (p := ⟨w.heap.size, 0, none⟩) (by simp; omega)).trans ((World.cell?_alloc_lt _ _ ⟨w.heap.size, 0, none⟩ (by simp; omega)).trans hd0)
          have he1 : w3.cell? ⟨w.heap.size, 1, none⟩ = some (.int .i64 b) := (hB3'.cell (p := ⟨w.heap.size, 1, none⟩) (by simp; omega)).trans ((World.cell?_alloc_lt _ _ ⟨w.heap.size, 1, none⟩ (by simp; omega)).trans hd1)
          have hz := blankS_size s [((a : Int), (b : Int))]
          have hxt := blank_cut s a b (by omega) (by omega)
          generalize blankS s [((a : Int), (b : Int))] = t at *
          go_wp2
          go_ret
          exact ⟨rfl, (((hBa.trans (hB2.mono hBa.size)).alloc (by omega) _).trans (hB3'.mono (by omega)))⟩
  · have hs' : 300 < s.size := by omega
    go_enter Try.func7, Try.ntmps7
    go_wp2_with fail
    refine (awake_calls _).mono ?_
    rintro e w1 ⟨rfl, hB1⟩
    have hs1 := hB1.size
    have hc0 : w1.cell? ⟨w.heap.size, 0, none⟩ = some (.int .i64 x1) := (hB1.cell (p := ⟨w.heap.size, 0, none⟩) (by simp)).trans (row_cell (by simp))
    have hc1 : w1.cell? ⟨w.heap.size, 1, none⟩ = some (.int .i64 x2) := (hB1.cell (p := ⟨w.heap.size, 1, none⟩) (by simp)).trans (row_cell (by simp))
    simp at hs1
    have hBa : Below w.heap.size w w1 := ((Below.refl _ w).alloc (Nat.le_refl _) _).trans (hB1.mono (by simp))
    go_wp2_with fail
    refine (awake_calls _).mono ?_
    rintro e w2 ⟨rfl, hB2⟩
    go_wp2
    go_ret
    exact ⟨rfl, hBa.trans (hB2.mono hBa.size)⟩

set_option maxRecDepth 100000 in
theorem lifted (os : Os) (started : os.Started) (H : Type) (enc : TypeId × Value → H) :
    ReturnsInHanded {} Try.checked os 7 .any (Rows.pageCutsSpec.pre6 enc Try.prog Try.f7 Rows.pageCutsRow.domain false) (Rows.pageCutsSpec.post enc Try.prog Try.f7 false true false false) := by
  refine returnsInHanded_of_change (C := Try.checked) own started (by kernel_rfl) Try.func7
    (ChangeSpec.witness6 (enc := enc) (C := Try.checked) false ⟨#[], #[.string ByteArray.empty, .agg #[.int .i64 0, .int .i64 0]], []⟩ 8 (by kernel_rfl) (by kernel_rfl) (by kernel_rfl) (by kernel_rfl)) ?_
  intro W base args ds gs before hval0 hW hcnd _
  have hval : ∀ (j : Nat) t v, Try.f7.params[j]? = some t → args[j]? = some v → Value.okWide Try.prog W .any base t v := hval0
  have hW' := hW
  obtain ⟨p, q, hA0, hV, rfl, hfz, hnd⟩ := hW
  have hA : DataW.TrodAll enc Try.prog W 0 (fun _ => true) true Try.f7.params.toList args.toList ds p := hA0
  rw [Try.params7] at hA hval
  obtain ⟨v0, vs0, d0, ds0, p0, q0, hargs, rfl, rfl, h0, r0⟩ := trodAll_cons hA
  obtain ⟨v1, vs1, d1, ds1, p1, q1, rfl, rfl, rfl, h1, r1⟩ := trodAll_cons r0
  obtain ⟨rfl, rfl, rfl⟩ := trodAll_nil r1
  obtain rfl : args = #[v0, v1] := by cases args; simp_all
  obtain ⟨rfl, rfl⟩ := trodVars_none hV
  obtain ⟨a0, rfl, rfl, rfl, w0⟩ := open_string Try.underlying9 (hval 0 9 v0 rfl rfl) h0
  obtain ⟨c1a, c1b, y1a, y1b, mm1, rfl, rfl, rfl, hy1a, hy1b⟩ := open_agg2 Try.underlying41 (by kernel_rfl) Try.cells41 (hval 1 41 v1 rfl rfl) h1
  obtain ⟨x1a, e1a, rfl, wx1a⟩ := DataW.trod_int Try.underlying3 hy1a
  obtain ⟨x1b, e1b, rfl, wx1b⟩ := DataW.trod_int Try.underlying3 hy1b
  simp at e1a e1b
  subst e1a e1b
  clear hA0 hval0
  simp only [List.append_nil] at hW'
  refine (walk a0 x1a x1b W).mono fun e W' ⟨he, hg⟩ => ?_
  subst he
  exact ⟨_, rfl, _, _, _, [], [], [], hW', trodAll_cons_mk (shut_bool Try.underlying4 _) trodAll_mk0, (trodAll_cons_mk (shut_string Try.underlying9 w0) (trodAll_cons_mk (shut_agg2 (y0 := (.lit (.int .i64 x1a), [])) (y1 := (.lit (.int .i64 x1b), [])) Try.underlying41 (by kernel_rfl) Try.cells41 ⟨1, by simp [DataW.trod, Try.underlying3, wx1a]⟩ ⟨1, by simp [DataW.trod, Try.underlying3, wx1b]⟩) trodAll_mk0)), rfl, hg.frame _, fun h => by cases h⟩

theorem over : Rows.pageCutsRow.holds Try.pinned (OpenSpec.ofChange Rows.pageCutsSpec) :=
  OpenClaim.holds_of_wide 7 Try.f7 rfl rfl rfl rfl rfl rfl rfl ⟨rfl, rfl, rfl, rfl, rfl⟩ rfl rfl rfl rfl rfl (by kernel_rfl) Try.func7 (by kernel_rfl)
    (of_decide_eq_true (by kernel_rfl)) (by unfold Func.isWrapper; first | (rw [if_pos (by decide +kernel)]; kernel_rfl) | (rw [if_neg (by decide +kernel)]; exact ⟨rfl, rfl⟩))
    (fun os started H enc _ => lifted os started H enc)

theorem proved : Rows.PageCutsSaid :=
  over
#print axioms proved

end Go.Proofs.Ytjimkfniahndhaa.pageCuts
