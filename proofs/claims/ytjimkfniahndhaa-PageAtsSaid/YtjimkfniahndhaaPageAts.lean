/-
  PageAts: for every text, line and column the statement answers true, and its arguments read as before. No condition.
-/
import Derived.Test.YtjimkfniahndhaaRows
import Derived.WalkKit
import Derived.ProofKit
import Derived.OpenShut
import Derived.ShutString
import Derived.Test.YtjimkfniahndhaaAwake
namespace Go.Proofs.Ytjimkfniahndhaa.pageAts
open Go.ChangeShapes Go.WideShapes Go.ChangeAt Go.RowKit Go.Proofs.Ytjimkfniahndhaa
open Go.ChangeMaps (open_string shut_string)
set_option linter.unusedVariables false      -- a walk need not use every 'w<i>' (that an integer argument fits its kind)

theorem own : ownKnob Try.prog.godebug = none := by kernel_rfl

theorem placeOf_inj (t : List UInt8) (i j : Nat) (hi : i ≤ t.length) (hj : j ≤ t.length) (e : placeOf t i = placeOf t j) : i = j := by
  obtain ⟨x, hx, h1, h2, h3⟩ := spans_of t i hi
  obtain ⟨y, hy, g1, g2, g3⟩ := spans_of t j hj
  rw [h3, g3] at e
  simp at e
  obtain rfl := spans_unique t x y hx hy e.1
  omega

set_option maxRecDepth 100000 in
set_option maxHeartbeats 1000000 in
/-- PageAts answers true, and leaves what there was. -/
theorem walk (a0 : ByteArray) (a1 a2 : Int) (w : World) :
    Calls Try.prog 4 #[.string a0, .int .i64 a1, .int .i64 a2] w fun e w' => e = .returned (.bool true) ∧ Below w.heap.size w w' := by
  by_cases hs : a0.size ≤ 200
  · have hs0 : decide (200 < a0.size) = false := by simp; omega
    by_cases hk : ∃ i, i ≤ a0.size ∧ ((placeOf a0.data.toList i).1 : Int) = a1 ∧ ((placeOf a0.data.toList i).2 : Int) = a2
    · obtain ⟨i, hi, rfl, rfl⟩ := hk
      have hat := Lib.hid (fun w => at_calls a0 (by omega) (placeOf a0.data.toList i).1 (placeOf a0.data.toList i).2 w)
      go_enter Try.func4, Try.ntmps4
      go_wp2_with fail
      refine (awake_calls _).mono ?_
      rintro e w1 ⟨rfl, hB1⟩
      go_wp2_with fail
      refine (hat.out _).mono ?_
      rintro e w2 ⟨hap, hB2⟩
      obtain rfl := at_yes hi hap
      clear hap
      go_wp2_with fail
      go_loop [30] (fun c => ∃ j : Nat, j ≤ i ∧ c = .int .i64 j) (fun c => i - (intOf c).toNat)
      case atStart => exact ⟨0, Nat.zero_le _, rfl⟩
      case round =>
        obtain ⟨j, hj, rfl⟩ := hrel
        have hrp := Lib.hid (refPlace_calls a0 (by omega) (j : Int) (by omega) (by omega) w2)
        by_cases hlt : j < i
        · by_cases hb1 : ((placeOf a0.data.toList j).1 : Int) = (placeOf a0.data.toList i).1
          · have hb2 : ¬ ((placeOf a0.data.toList j).2 : Int) = (placeOf a0.data.toList i).2 := fun e => by
              have := placeOf_inj a0.data.toList j i (by simp; omega) (by simpa using hi) (Prod.ext (by omega) (by omega))
              omega
            have hc1 : (((placeOf a0.data.toList j).1 : Int) == (placeOf a0.data.toList i).1) = true := by simpa using hb1
            have hc2 : (((placeOf a0.data.toList j).2 : Int) == (placeOf a0.data.toList i).2) = false := by simpa using hb2
            clear hb1 hb2
            go_wp2_with (go_at_call 13; refine hrp.out.mono ?_; rintro e w3 ⟨rfl, rfl⟩)
            go_round
            case rel => exact ⟨j + 1, by omega, by go_num⟩
            case measure => simp [intOf]; omega
          · have hc1 : (((placeOf a0.data.toList j).1 : Int) == (placeOf a0.data.toList i).1) = false := by simpa using hb1
            clear hb1
            go_wp2_with (go_at_call 13; refine hrp.out.mono ?_; rintro e w3 ⟨rfl, rfl⟩)
            go_round
            case rel => exact ⟨j + 1, by omega, by go_num⟩
            case measure => simp [intOf]; omega
        · obtain rfl : j = i := by omega
          go_wp2_with (go_at_call 13; refine hrp.out.mono ?_; rintro e w3 ⟨rfl, rfl⟩)
          go_ret
          exact ⟨rfl, hB1.trans (hB2.mono hB1.size)⟩
    · have hno : ∀ i, i ≤ a0.size → ¬ (((placeOf a0.data.toList i).1 : Int) = a1 ∧ ((placeOf a0.data.toList i).2 : Int) = a2) := fun i hi h => hk ⟨i, hi, h⟩
      clear hk
      have HN := Lib.hid hno
      clear hno
      have hat := Lib.hid (fun w => at_calls a0 (by omega) a1 a2 w)
      go_enter Try.func4, Try.ntmps4
      go_wp2_with fail
      refine (awake_calls _).mono ?_
      rintro e w1 ⟨rfl, hB1⟩
      go_wp2_with fail
      refine (hat.out _).mono ?_
      rintro e w2 ⟨hap, hB2⟩
      obtain rfl := at_no HN.out hap
      clear hap
      go_wp2_with fail
      go_loop [30] (fun c => ∃ j : Nat, j ≤ a0.size + 1 ∧ c = .int .i64 j) (fun c => a0.size + 1 - (intOf c).toNat)
      case atStart => exact ⟨0, Nat.zero_le _, rfl⟩
      case round =>
        obtain ⟨j, hj, rfl⟩ := hrel
        by_cases hlt : j < a0.size + 1
        · have hrp := Lib.hid (refPlace_calls a0 (by omega) (j : Int) (by omega) (by omega) w2)
          have hne := HN.out j (by omega)
          by_cases hb1 : ((placeOf a0.data.toList j).1 : Int) = a1
          · have hc1 : (((placeOf a0.data.toList j).1 : Int) == a1) = true := by simpa using hb1
            have hc2 : (((placeOf a0.data.toList j).2 : Int) == a2) = false := by
              rw [beq_eq_false_iff_ne]; exact fun e => hne ⟨hb1, e⟩
            clear hb1 hne
            go_wp2_with (go_at_call 13; refine hrp.out.mono ?_; rintro e w3 ⟨rfl, rfl⟩)
            go_round
            case rel => exact ⟨j + 1, by omega, by go_num⟩
            case measure => simp [intOf]; omega
          · have hc1 : (((placeOf a0.data.toList j).1 : Int) == a1) = false := by simpa using hb1
            clear hb1 hne
            go_wp2_with (go_at_call 13; refine hrp.out.mono ?_; rintro e w3 ⟨rfl, rfl⟩)
            go_round
            case rel => exact ⟨j + 1, by omega, by go_num⟩
            case measure => simp [intOf]; omega
        · obtain rfl : j = a0.size + 1 := by omega
          go_wp2
          go_ret
          exact ⟨rfl, hB1.trans (hB2.mono hB1.size)⟩
  · have hs' : 200 < a0.size := by omega
    go_enter Try.func4, Try.ntmps4
    go_wp2_with fail
    refine (awake_calls _).mono ?_
    rintro e w1 ⟨rfl, hB1⟩
    go_wp2_with fail
    refine (awake_calls _).mono ?_
    rintro e w2 ⟨rfl, hB2⟩
    go_wp2
    go_ret
    exact ⟨rfl, hB1.trans (hB2.mono hB1.size)⟩

/-! ### THE ROW's STEP: WRITTEN OUT: LEAVE IT -/
set_option maxRecDepth 100000 in
theorem lifted (os : Os) (started : os.Started) (H : Type) (enc : TypeId × Value → H) :
    ReturnsInHanded {} Try.checked os 4 .any (Rows.pageAtsSpec.pre6 enc Try.prog Try.f4 Rows.pageAtsRow.domain false) (Rows.pageAtsSpec.post enc Try.prog Try.f4 false true false false) := by
  refine returnsInHanded_of_change (C := Try.checked) own started (by kernel_rfl) Try.func4
    (ChangeSpec.witness6 (enc := enc) (C := Try.checked) false ⟨#[], #[.string ByteArray.empty, .int .i64 0, .int .i64 0], []⟩ 8 (by kernel_rfl) (by kernel_rfl) (by kernel_rfl) (by kernel_rfl)) ?_
  intro W base args ds gs before hval0 hW hcnd _
  have hval : ∀ (j : Nat) t v, Try.f4.params[j]? = some t → args[j]? = some v → Value.okWide Try.prog W .any base t v := hval0
  have hW' := hW
  obtain ⟨p, q, hA0, hV, rfl, hfz, hnd⟩ := hW
  have hA : DataW.TrodAll enc Try.prog W 0 (fun _ => true) true Try.f4.params.toList args.toList ds p := hA0
  rw [Try.params4] at hA hval
  obtain ⟨v0, vs0, d0, ds0, p0, q0, hargs, rfl, rfl, h0, r0⟩ := trodAll_cons hA
  obtain ⟨v1, vs1, d1, ds1, p1, q1, rfl, rfl, rfl, h1, r1⟩ := trodAll_cons r0
  obtain ⟨v2, vs2, d2, ds2, p2, q2, rfl, rfl, rfl, h2, r2⟩ := trodAll_cons r1
  obtain ⟨rfl, rfl, rfl⟩ := trodAll_nil r2
  obtain rfl : args = #[v0, v1, v2] := by cases args; simp_all
  obtain ⟨rfl, rfl⟩ := trodVars_none hV
  obtain ⟨a0, rfl, rfl, rfl, w0⟩ := open_string Try.underlying9 (hval 0 9 v0 rfl rfl) h0
  obtain ⟨a1, rfl, rfl, rfl, w1⟩ := open_int Try.underlying3 (hval 1 3 v1 rfl rfl) h1
  obtain ⟨a2, rfl, rfl, rfl, w2⟩ := open_int Try.underlying3 (hval 2 3 v2 rfl rfl) h2
  clear hA0 hval0
  simp only [List.append_nil] at hW'
  refine (walk a0 a1 a2 W).mono fun e W' ⟨he, hg⟩ => ?_
  subst he
  exact ⟨_, rfl, _, _, _, [], [], [], hW', trodAll_cons_mk (shut_bool Try.underlying4 _) trodAll_mk0, (trodAll_cons_mk (shut_string Try.underlying9 w0) (trodAll_cons_mk (shut_int Try.underlying3 w1) (trodAll_cons_mk (shut_int Try.underlying3 w2) trodAll_mk0))), rfl, hg.frame _, fun h => by cases h⟩

theorem over : Rows.pageAtsRow.holds Try.pinned (OpenSpec.ofChange Rows.pageAtsSpec) :=
  OpenClaim.holds_of_wide 4 Try.f4 rfl rfl rfl rfl rfl rfl rfl ⟨rfl, rfl, rfl, rfl, rfl⟩ rfl rfl rfl rfl rfl (by kernel_rfl) Try.func4 (by kernel_rfl)
    (of_decide_eq_true (by kernel_rfl)) (by unfold Func.isWrapper; first | (rw [if_pos (by decide +kernel)]; kernel_rfl) | (rw [if_neg (by decide +kernel)]; exact ⟨rfl, rfl⟩))
    (fun os started H enc _ => lifted os started H enc)

/-- ████ THE STATEMENT ████ -/
theorem proved : Rows.PageAtsSaid :=
  over
#print axioms proved
end Go.Proofs.Ytjimkfniahndhaa.pageAts
