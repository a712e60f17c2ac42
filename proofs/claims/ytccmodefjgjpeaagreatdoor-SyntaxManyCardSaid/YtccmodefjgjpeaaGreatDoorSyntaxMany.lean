/-
  SyntaxMany: for every number the statement answers true. No condition but that the listed variables lie as the program's text lays them (the tie).
-/
import Derived.Test.YtccmodefjgjpeaaGreatDoorRows
import Derived.Test.YtccmodefjgjpeaaGreatDoorCards
import Derived.Test.YtccmodefjgjpeaaGreatDoorTie
import Derived.WalkKit
import Derived.WalkSpells
import Derived.ProofKit
import Derived.OpenShut
import Derived.ShutString
import Derived.Lib.SmallJoins
import Derived.SevenTiedAt
import Derived.Test.YtccmodefjgjpeaaGreatDoorLaidS
import Derived.Test.YtccmodefjgjpeaaGreatDoorAwakeS
import Derived.Test.YtccmodefjgjpeaaGreatDoorPRes
import Derived.Test.YtccmodefjgjpeaaGreatDoorManyM
import Derived.Test.YtccmodefjgjpeaaGreatDoorManyF
namespace Go.Proofs.YtccmodefjgjpeaaGreatDoor.syntaxMany
open Go.ChangeShapes Go.WideShapes Go.ChangeAt Go.RowKit Go.Proofs.YtccmodefjgjpeaaGreatDoor Go.Joins
open Go.ChangeMaps (open_string shut_string)
set_option linter.unusedVariables false


theorem bs_app (a b : List UInt8) : bs a ++ bs b = bs (a ++ b) := by
  rw [bs_eq]
  simp [bs_toList]
theorem code_good {t : List UInt8} (h : code (parseT t) = 0) : ∃ s, parseT t = .good s := by
  cases hr : parseT t with
  | good s => exact ⟨s, rfl⟩
  | bad p c =>
    have h1 := (parseT_bad hr).2
    rw [hr] at h
    have h2 : c = 0 := h
    omega
theorem code_bad {t : List UInt8} {c : Nat} (h : code (parseT t) = c) (hc : c ≠ 0) : ∃ p, parseT t = .bad p c := by
  cases hr : parseT t with
  | good s => rw [hr] at h; exact absurd h.symm hc
  | bad p d => rw [hr] at h; exact ⟨p, by rw [show d = c from h]⟩
theorem u8_nat {a : Int} (hw : (Lit.int .u8 a).wf = true) : ∃ n : Nat, a = (n : Int) ∧ n ≤ 255 := by
  have hmin : IntKind.u8.min = 0 := rfl
  have hmax : IntKind.u8.max = 255 := rfl
  simp only [Lit.wf, Bool.and_eq_true, decide_eq_true_eq] at hw
  exact ⟨a.toNat, by omega, by omega⟩

set_option maxRecDepth 100000 in
set_option maxHeartbeats 4000000 in
/-- SyntaxMany answers true, and leaves what there was. -/
theorem walk (a0 : Int) (w : World) (hT : Tabs w) (hw0 : (Lit.int .u8 a0).wf = true) :
    Calls Tryz.prog 5 #[.int .u8 a0] w fun e w' => e = .returned (.bool true) ∧ Below w.heap.size w w' := by
  obtain ⟨n, rfl, hn⟩ := u8_nat hw0
  clear hw0
  have HT := Lib.hid hT
  have h2 := hT.2.2
  clear hT
  have hk : n % 8 < 8 := Nat.mod_lt _ (by omega)
  have er1 : ((n : Int) % 8) = ((n % 8 : Nat) : Int) := by simp
  have er1' : (n : Int).tmod 8 = ((n % 8 : Nat) : Int) := by rw [Int.tmod_eq_emod_of_nonneg (by omega)]; simp
  generalize n % 8 = m at *
  have hda := many_f m hk
  have z1 : (bs (rep (28 + m) funT)).size = (28 + m) * 13 := by rw [bs_size, rep_len]; rfl
  have z2 : (bs (hdT ++ rep (996 + m) retT) ++ (⟨#[125]⟩ : ByteArray)).size = 13 + (996 + m) * 7 + 1 := by rw [ByteArray.size_append, bs_size, List.length_append, rep_len]; rfl
  have HF1 := Lib.hid (fun W hW => front_calls (bs (rep (28 + m) funT)) (by omega) W hW)
  have HF2 := Lib.hid (fun W hW => front_calls (bs (hdT ++ rep (996 + m) retT) ++ (⟨#[125]⟩ : ByteArray)) (by omega) W hW)
  have e1 : (bs (rep (28 + m) funT)).data.toList = rep (28 + m) funT := bs_toList _
  have e2 : (bs (hdT ++ rep (996 + m) retT) ++ (⟨#[125]⟩ : ByteArray)).data.toList = hdT ++ rep (996 + m) retT ++ [125] := by simp [bs_toList]
  rw [e1] at HF1
  rw [e2] at HF2
  clear e1 e2 z1 z2
  by_cases hd : m ≤ 4
  · rw [if_pos hd] at hda
    obtain ⟨g1, hg1⟩ := code_good hda
    obtain ⟨g2, hg2⟩ := many_good (996 + m) (by omega)
    have HG1 := Lib.hid hg1
    have HG2 := Lib.hid hg2
    have d1 : decide (28 + (m : Int) ≤ 32) = true := decide_eq_true (by omega)
    have d2 : decide (996 + (m : Int) ≤ 1000) = true := decide_eq_true (by omega)
    clear hda hg1 hg2
    go_enter Tryz.func5, Tryz.ntmps5
    go_wp2_with fail
    refine (awake_calls _ HT.out).mono ?_
    rintro e w1 ⟨rfl, hB1⟩
    have HB1 := Lib.hid hB1
    clear hB1
    go_wp2
    go_loopw [3, 17] (fun va vi wr => ∃ i : Nat, i ≤ 28 + m ∧ va = .string (bs (rep i funT)) ∧ vi = .int .i64 (i : Int) ∧ Below w.heap.size w wr) (fun _ vi _ => 28 + m - (intOf vi).toNat)
    case atStart => exact ⟨0, Nat.zero_le _, rfl, rfl, HB1.out⟩
    case round =>
      obtain ⟨i, hi, rfl, rfl, hB2⟩ := hrel
      by_cases hlt : i < 28 + m
      · have hlt1 : (i : Int) < 28 + (m : Int) := by omega
        have l1 := rep_len i funT
        have l2 : funT.length = 13 := rfl
        rw [l2] at l1
        have s1 : (9223372036854775807 < (bs (rep i funT)).size + 13) = False := eq_false (by rw [bs_size, l1]; omega)
        have s1' : (9223372036854775807 < (bs (rep i funT)).size + (⟨#[102, 117, 110, 99, 32, 102, 40, 41, 32, 123, 32, 125, 10]⟩ : ByteArray).size) = False := s1
        have a1 : Hid (bs (rep i funT) ++ (⟨#[102, 117, 110, 99, 32, 102, 40, 41, 32, 123, 32, 125, 10]⟩ : ByteArray) = bs (rep i funT ++ funT)) := Lib.hid (bs_app _ funT)
        have HB2 := Lib.hid hB2
        clear l1 l2 hB2
        go_wp2
        go_roundw
        case rel => exact ⟨i + 1, by omega, by rw [a1.out, rep_snoc], by go_num, HB2.out⟩
        case measure => simp [intOf]; omega
      · obtain rfl : i = 28 + m := by omega
        have HB2 := Lib.hid hB2
        have HT2 := Lib.hid (HT.out.below hB2 h2)
        clear hB2
        go_wp2_with fail
        refine (HF1.out _ HT2.out).mono ?_
        intro e w3 h3
        obtain ⟨hB3, v3, rfl, ht3⟩ := h3.good HG1.out
        obtain ⟨A1, c1, A2, c2, A3, c3, rfl⟩ := ht3.form
        have HB3 := Lib.hid (HB2.out.trans (hB3.mono HB2.out.size))
        clear hB3 h3
        clear ht3
        go_wp2
        go_loopw [7, 32] (fun va vi wr => ∃ j : Nat, j ≤ 996 + m ∧ va = .string (bs (hdT ++ rep j retT)) ∧ vi = .int .i64 (j : Int) ∧ Below w.heap.size w wr) (fun _ vi _ => 996 + m - (intOf vi).toNat)
        case atStart => exact ⟨0, Nat.zero_le _, rfl, rfl, HB3.out.alloc HB3.out.size _⟩
        case round =>
          obtain ⟨j, hj, rfl, rfl, hB4⟩ := hrel
          have l1 := rep_len j retT
          have l2 : retT.length = 7 := rfl
          have l3 : hdT.length = 13 := rfl
          rw [l2] at l1
          have l4 : (bs (hdT ++ rep j retT)).size = 13 + j * 7 := by rw [bs_size, List.length_append, l1, l3]
          by_cases hlt : j < 996 + m
          · have hlt1 : (j : Int) < 996 + (m : Int) := by omega
            have s1 : (9223372036854775807 < (bs (hdT ++ rep j retT)).size + 7) = False := eq_false (by omega)
            have s1' : (9223372036854775807 < (bs (hdT ++ rep j retT)).size + (⟨#[114, 101, 116, 117, 114, 110, 59]⟩ : ByteArray).size) = False := s1
            have a1 : Hid (bs (hdT ++ rep j retT) ++ (⟨#[114, 101, 116, 117, 114, 110, 59]⟩ : ByteArray) = bs (hdT ++ rep j retT ++ retT)) := Lib.hid (bs_app _ retT)
            have HB4 := Lib.hid hB4
            clear l1 l2 l3 l4 hB4
            go_wp2
            go_roundw
            case rel => exact ⟨j + 1, by omega, by rw [a1.out, List.append_assoc, rep_snoc], by go_num, HB4.out⟩
            case measure => simp [intOf]; omega
          · obtain rfl : j = 996 + m := by omega
            have s1 : (9223372036854775807 < (bs (hdT ++ rep (996 + m) retT)).size + 1) = False := eq_false (by omega)
            have s1' : (9223372036854775807 < (bs (hdT ++ rep (996 + m) retT)).size + (⟨#[125]⟩ : ByteArray).size) = False := s1
            have HB4 := Lib.hid hB4
            have HT4 := Lib.hid (HT.out.below hB4 h2)
            clear l1 l2 l3 l4 hB4
            go_wp2_with fail
            refine (HF2.out _ HT4.out).mono ?_
            intro e w5 h5
            obtain ⟨hB5, v5, rfl, ht5⟩ := h5.good HG2.out
            obtain ⟨B1, e1, B2, e2, B3, e3, rfl⟩ := ht5.form
            have HB5 := Lib.hid (HB4.out.trans (hB5.mono HB4.out.size))
            clear hB5 h5
            clear ht5
            go_wp2
            go_ret
            exact ⟨rfl, HB5.out.alloc HB5.out.size _⟩
  · rw [if_neg hd] at hda
    obtain ⟨p1, hg1⟩ := code_bad hda (by decide)
    obtain ⟨p2, hg2⟩ := many_bad (996 + m) (by omega)
    have HG1 := Lib.hid hg1
    have HG2 := Lib.hid hg2
    have d1 : decide (28 + (m : Int) ≤ 32) = false := decide_eq_false (by omega)
    have d2 : decide (996 + (m : Int) ≤ 1000) = false := decide_eq_false (by omega)
    clear hda hg1 hg2
    go_enter Tryz.func5, Tryz.ntmps5
    go_wp2_with fail
    refine (awake_calls _ HT.out).mono ?_
    rintro e w1 ⟨rfl, hB1⟩
    have HB1 := Lib.hid hB1
    clear hB1
    go_wp2
    go_loopw [3, 17] (fun va vi wr => ∃ i : Nat, i ≤ 28 + m ∧ va = .string (bs (rep i funT)) ∧ vi = .int .i64 (i : Int) ∧ Below w.heap.size w wr) (fun _ vi _ => 28 + m - (intOf vi).toNat)
    case atStart => exact ⟨0, Nat.zero_le _, rfl, rfl, HB1.out⟩
    case round =>
      obtain ⟨i, hi, rfl, rfl, hB2⟩ := hrel
      by_cases hlt : i < 28 + m
      · have hlt1 : (i : Int) < 28 + (m : Int) := by omega
        have l1 := rep_len i funT
        have l2 : funT.length = 13 := rfl
        rw [l2] at l1
        have s1 : (9223372036854775807 < (bs (rep i funT)).size + 13) = False := eq_false (by rw [bs_size, l1]; omega)
        have s1' : (9223372036854775807 < (bs (rep i funT)).size + (⟨#[102, 117, 110, 99, 32, 102, 40, 41, 32, 123, 32, 125, 10]⟩ : ByteArray).size) = False := s1
        have a1 : Hid (bs (rep i funT) ++ (⟨#[102, 117, 110, 99, 32, 102, 40, 41, 32, 123, 32, 125, 10]⟩ : ByteArray) = bs (rep i funT ++ funT)) := Lib.hid (bs_app _ funT)
        have HB2 := Lib.hid hB2
        clear l1 l2 hB2
        go_wp2
        go_roundw
        case rel => exact ⟨i + 1, by omega, by rw [a1.out, rep_snoc], by go_num, HB2.out⟩
        case measure => simp [intOf]; omega
      · obtain rfl : i = 28 + m := by omega
        have HB2 := Lib.hid hB2
        have HT2 := Lib.hid (HT.out.below hB2 h2)
        clear hB2
        go_wp2_with fail
        refine (HF1.out _ HT2.out).mono ?_
        intro e w3 h3
        obtain ⟨hB3, rfl⟩ := h3.bad HG1.out
        have HB3 := Lib.hid (HB2.out.trans (hB3.mono HB2.out.size))
        clear hB3 h3
        unfold nilT
        go_wp2
        go_loopw [7, 32] (fun va vi wr => ∃ j : Nat, j ≤ 996 + m ∧ va = .string (bs (hdT ++ rep j retT)) ∧ vi = .int .i64 (j : Int) ∧ Below w.heap.size w wr) (fun _ vi _ => 996 + m - (intOf vi).toNat)
        case atStart => exact ⟨0, Nat.zero_le _, rfl, rfl, HB3.out.alloc HB3.out.size _⟩
        case round =>
          obtain ⟨j, hj, rfl, rfl, hB4⟩ := hrel
          have l1 := rep_len j retT
          have l2 : retT.length = 7 := rfl
          have l3 : hdT.length = 13 := rfl
          rw [l2] at l1
          have l4 : (bs (hdT ++ rep j retT)).size = 13 + j * 7 := by rw [bs_size, List.length_append, l1, l3]
          by_cases hlt : j < 996 + m
          · have hlt1 : (j : Int) < 996 + (m : Int) := by omega
            have s1 : (9223372036854775807 < (bs (hdT ++ rep j retT)).size + 7) = False := eq_false (by omega)
            have s1' : (9223372036854775807 < (bs (hdT ++ rep j retT)).size + (⟨#[114, 101, 116, 117, 114, 110, 59]⟩ : ByteArray).size) = False := s1
            have a1 : Hid (bs (hdT ++ rep j retT) ++ (⟨#[114, 101, 116, 117, 114, 110, 59]⟩ : ByteArray) = bs (hdT ++ rep j retT ++ retT)) := Lib.hid (bs_app _ retT)
            have HB4 := Lib.hid hB4
            clear l1 l2 l3 l4 hB4
            go_wp2
            go_roundw
            case rel => exact ⟨j + 1, by omega, by rw [a1.out, List.append_assoc, rep_snoc], by go_num, HB4.out⟩
            case measure => simp [intOf]; omega
          · obtain rfl : j = 996 + m := by omega
            have s1 : (9223372036854775807 < (bs (hdT ++ rep (996 + m) retT)).size + 1) = False := eq_false (by omega)
            have s1' : (9223372036854775807 < (bs (hdT ++ rep (996 + m) retT)).size + (⟨#[125]⟩ : ByteArray).size) = False := s1
            have HB4 := Lib.hid hB4
            have HT4 := Lib.hid (HT.out.below hB4 h2)
            clear l1 l2 l3 l4 hB4
            go_wp2_with fail
            refine (HF2.out _ HT4.out).mono ?_
            intro e w5 h5
            obtain ⟨hB5, rfl⟩ := h5.bad HG2.out
            have HB5 := Lib.hid (HB4.out.trans (hB5.mono HB4.out.size))
            clear hB5 h5
            unfold nilT
            go_wp2
            go_ret
            exact ⟨rfl, HB5.out.alloc HB5.out.size _⟩


set_option maxRecDepth 100000 in
theorem lifted (os : Os) (started : os.Started) (H : Type) (enc : TypeId × Value → H) :
    ReturnsInHanded {} Tryz.checked os 5 .any (fun w args => (Rows.syntaxManySpec.pre enc Tryz.prog Tryz.f5 [] false w args ∧ laidMetH Tryz.prog laid2 w) ∧ sizedMet enc Tryz.prog Tryz.f5 (OpenSpec.ofChange Rows.syntaxManySpec) false w args)
      (Rows.syntaxManySpec.post enc Tryz.prog Tryz.f5 false true false false) := by
  refine returnsInHanded_of_change_and (C := Tryz.checked) (X := fun w _ => laidMetH Tryz.prog laid2 w) (fun _ _ _ hh h => h.of_heap hh) Tryz.own started (by kernel_rfl) Tryz.func5
    (ChangeSpec.witness_shaped (enc := enc) (C := Tryz.checked) (os := os) (X := fun w _ => laidMetH Tryz.prog laid2 w) false (World.doorLaid Tryz.prog 233 os) #[.int .u8 0] 8 rfl (World.shaped_of_RefB (by kernel_rfl) (by kernel_rfl)) (by kernel_rfl) (by kernel_rfl) (by kernel_rfl) (door_met os _)) ?_
  intro W base args ds gs before hval0 hW hcnd hsz hL _
  have hval : ∀ (j : Nat) t v, Tryz.f5.params[j]? = some t → args[j]? = some v → Value.okWide Tryz.prog W .any base t v := hval0
  have hW' := hW
  obtain ⟨p, q, hA0, hV, rfl, hfz, hnd⟩ := hW
  have hA : DataW.TrodAll enc Tryz.prog W 0 (fun _ => true) true Tryz.f5.params.toList args.toList ds p := hA0
  rw [Tryz.params5] at hA hval
  obtain ⟨v0, vs0, d0, ds0, p0, q0, hargs, rfl, rfl, h0, r0⟩ := trodAll_cons hA
  obtain ⟨rfl, rfl, rfl⟩ := trodAll_nil r0
  obtain rfl : args = #[v0] := by cases args; simp_all
  obtain ⟨rfl, rfl⟩ := trodVars_none hV
  obtain ⟨a0, rfl, rfl, rfl, w0⟩ := open_int Tryz.underlying5 (hval 0 5 v0 rfl rfl) h0
  clear hA0 hval0
  simp only [List.append_nil] at hW'
  refine (walk a0 W (tabs_of_laid hL) w0).mono fun e W' ⟨he, hg⟩ => ?_
  subst he
  exact ⟨_, rfl, _, _, _, [], [], [], hW', trodAll_cons_mk (shut_bool Tryz.underlying4 _) trodAll_mk0, (trodAll_cons_mk (shut_int Tryz.underlying5 w0) trodAll_mk0), rfl, hg.frame _, fun h => by cases h⟩

theorem over : Rows.SyntaxManySaid :=
  OpenClaim.holds_of_wide 5 Tryz.f5 rfl rfl rfl rfl rfl rfl rfl ⟨rfl, rfl, rfl, rfl, rfl⟩ rfl rfl rfl rfl rfl (by kernel_rfl) Tryz.func5 (by kernel_rfl)
    (of_decide_eq_true (by kernel_rfl)) (by unfold Func.isWrapper; first | (rw [if_pos (by decide +kernel)]; kernel_rfl) | (rw [if_neg (by decide +kernel)]; exact ⟨rfl, rfl⟩))
    (fun os started H enc _ => lifted os started H enc)

theorem proved : Rows.SyntaxManyCardSaid :=
  Claim7.holds_tied_plain_at .later [] [.data, .data, .data, .sentinel, .sentinel, .data, .data] true (true, "e16af3669a31a138b6f0a67cedbca0c9b2bdc8ebff04942fd3db04372b172399") true
    over (fun _ h => by cases h) (by kernel_rfl) (fun _ h => by cases h) syntaxMany_row_tie rfl ⟨rfl, rfl⟩ (by kernel_rfl) rfl
    (fun f fn hf hfn => by
      obtain rfl : f = 5 := Option.some.inj ((show Tryz.prog.funcNamed Rows.syntaxManyRow.func = some 5 by kernel_rfl).symm.trans hf) |>.symm
      obtain rfl : fn = Tryz.f5 := (Option.some.inj (Tryz.func5.symm.trans hfn)).symm
      exact ⟨by kernel_rfl, fun j t ht => by
        rw [Tryz.params5] at ht
        rcases j with _ | j
        · obtain rfl : t = 5 := by simpa using ht.symm
          exact (show Tryz.prog.wantsStandIn 5 = false by kernel_rfl)
        simp at ht⟩)
    (by kernel_rfl)
#print axioms proved
end Go.Proofs.YtccmodefjgjpeaaGreatDoor.syntaxMany
