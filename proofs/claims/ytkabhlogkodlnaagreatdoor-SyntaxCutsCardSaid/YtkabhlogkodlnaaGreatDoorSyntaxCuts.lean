/-
  SyntaxCuts: for every text and every cut the statement answers true, and its arguments read as before. No condition but that the listed variables lie as the program's text lays them (the tie).
-/
import Derived.Test.YtkabhlogkodlnaaGreatDoorRows
import Derived.Test.YtkabhlogkodlnaaGreatDoorCards
import Derived.Test.YtkabhlogkodlnaaGreatDoorTie
import Derived.WalkKit
import Derived.WalkSpells
import Derived.ProofKit
import Derived.OpenShut
import Derived.ShutString
import Derived.Lib.SmallJoins
import Derived.SevenTiedAt
import Derived.Test.YtkabhlogkodlnaaGreatDoorLaidS
import Derived.Test.YtkabhlogkodlnaaGreatDoorAwakeS
import Derived.Test.YtkabhlogkodlnaaGreatDoorPRes
namespace Go.Proofs.YtkabhlogkodlnaaGreatDoor.syntaxCuts
open Go.ChangeShapes Go.WideShapes Go.ChangeAt Go.RowKit Go.Proofs.YtkabhlogkodlnaaGreatDoor Go.Joins
open Go.ChangeMaps (open_string shut_string)
set_option linter.unusedVariables false


set_option maxRecDepth 100000 in
set_option maxHeartbeats 2000000 in
/-- SyntaxCuts answers true, and leaves what there was. -/
theorem walk (a0 : ByteArray) (a1 : Int) (w : World) (hT : Tabs w) (hw : (Lit.int .u16 a1).wf = true) :
    Calls Tryz.prog 7 #[.string a0, .int .u16 a1] w fun e w' => e = .returned (.bool true) ∧ Below w.heap.size w w' := by
  have hr : 0 ≤ a1 ∧ a1 ≤ 65535 := by
    have hmin : IntKind.u16.min = 0 := rfl
    have hmax : IntKind.u16.max = 65535 := rfl
    simp only [Lit.wf, Bool.and_eq_true, decide_eq_true_eq] at hw
    omega
  obtain ⟨m, rfl⟩ : ∃ m : Nat, a1 = (m : Int) := ⟨a1.toNat, by omega⟩
  obtain ⟨hr0, hr1⟩ := hr
  clear hw
  have HT := Lib.hid hT
  have h2 := hT.2.2
  clear hT
  by_cases hs : a0.size ≤ 600
  · have hd : decide ((600 : Int) < (a0.size : Int)) = false := decide_eq_false (by omega)
    obtain ⟨k, hk⟩ : ∃ k : Nat, k = m % (a0.size + 1) := ⟨_, rfl⟩
    have hkl : k ≤ a0.size := by have := Nat.mod_lt m (show 0 < a0.size + 1 by omega); omega
    have hmod : (m : Int).tmod ((a0.size : Int) + 1) = (k : Int) := by
      rw [hk, Int.tmod_eq_emod_of_nonneg (by omega)]
      push_cast
      rfl
    have hnz : ¬ ((a0.size : Int) + 1) = 0 := by omega
    have hk0 : (0 : Int) ≤ (k : Int) := by omega
    have hk1 : (k : Int) ≤ (a0.size : Int) := by omega
    have hel : (a0.extract 0 k).data.toList = a0.data.toList.take k := by
      rw [Lib.extract_data]; simp
    have hln : (a0.data.toList.take k).length = k := by rw [List.length_take, sizeL]; omega
    have HF := Lib.hid (fun W hW => front_calls (a0.extract 0 k) (by have : (a0.extract 0 k).data.toList.length = (a0.extract 0 k).size := sizeL _; rw [hel, hln] at this; omega) W hW)
    rw [hel] at HF
    clear hk hel
    cases hres : parseT (a0.data.toList.take k) with
    | bad p c =>
      obtain ⟨hp, hc⟩ := parseT_bad hres
      rw [hln] at hp
      have HR := Lib.hid hres
      have hc0 : ((c : Int) == 0) = false := by rw [beq_eq_false_iff_ne]; omega
      have d1 : decide ((0 : Int) ≤ (p : Int)) = true := decide_eq_true (by omega)
      have d2 : decide ((p : Int) ≤ (k : Int)) = true := decide_eq_true (by omega)
      have d3 : decide (p ≤ k) = true := decide_eq_true hp
      clear hres hln hp hc
      go_enter Tryz.func7, Tryz.ntmps7
      go_wp2_with fail
      refine (awake_calls _ HT.out).mono ?_
      rintro e w1 ⟨rfl, hB1⟩
      have HT1 := Lib.hid (HT.out.below hB1 h2)
      have HB1 := Lib.hid hB1
      clear hB1
      go_wp2_with fail
      refine (HF.out _ HT1.out).mono ?_
      intro e w2 h3
      obtain ⟨hB2, he⟩ := h3.bad HR.out
      have HB2 := Lib.hid (HB1.out.trans (hB2.mono HB1.out.size))
      clear hB2 h3
      subst he
      unfold nilT
      go_wp2
      go_ret
      exact ⟨rfl, HB2.out.alloc HB2.out.size _⟩
    | good s =>
      have hn := parseT_good hres
      have HR := Lib.hid hres
      have d1 : decide ((0 : Int) < (s.fn.length : Int)) = true := decide_eq_true (by omega)
      have d2 : decide (0 < s.fn.length) = true := decide_eq_true hn
      clear hres hln hn
      go_enter Tryz.func7, Tryz.ntmps7
      go_wp2_with fail
      refine (awake_calls _ HT.out).mono ?_
      rintro e w1 ⟨rfl, hB1⟩
      have HT1 := Lib.hid (HT.out.below hB1 h2)
      have HB1 := Lib.hid hB1
      clear hB1
      go_wp2_with fail
      refine (HF.out _ HT1.out).mono ?_
      intro e w2 h3
      obtain ⟨hB2, v, he, ht⟩ := h3.good HR.out
      obtain ⟨A1, c1, A2, c2, A3, c3, rfl⟩ := ht.form
      have HB2 := Lib.hid (HB1.out.trans (hB2.mono HB1.out.size))
      clear hB2 h3 ht
      subst he
      go_wp2
      go_ret
      exact ⟨rfl, HB2.out.alloc HB2.out.size _⟩
  · have hd : decide ((600 : Int) < (a0.size : Int)) = true := decide_eq_true (by omega)
    go_enter Tryz.func7, Tryz.ntmps7
    go_wp2_with fail
    refine (awake_calls _ HT.out).mono ?_
    rintro e w1 ⟨rfl, hB1⟩
    have HT1 := Lib.hid (HT.out.below hB1 h2)
    have HB1 := Lib.hid hB1
    clear hB1
    go_wp2_with fail
    refine (awake_calls _ HT1.out).mono ?_
    rintro e w2 ⟨rfl, hB2⟩
    go_wp2
    go_ret
    exact ⟨rfl, HB1.out.trans (hB2.mono HB1.out.size)⟩


set_option maxRecDepth 100000 in
theorem lifted (os : Os) (started : os.Started) (H : Type) (enc : TypeId × Value → H) :
    ReturnsInHanded {} Tryz.checked os 7 .any (fun w args => (Rows.syntaxCutsSpec.pre enc Tryz.prog Tryz.f7 [] false w args ∧ laidMetH Tryz.prog laid2 w) ∧ sizedMet enc Tryz.prog Tryz.f7 (OpenSpec.ofChange Rows.syntaxCutsSpec) false w args)
      (Rows.syntaxCutsSpec.post enc Tryz.prog Tryz.f7 false true false false) := by
  refine returnsInHanded_of_change_and (C := Tryz.checked) (X := fun w _ => laidMetH Tryz.prog laid2 w) (fun _ _ _ hh h => h.of_heap hh) Tryz.own started (by kernel_rfl) Tryz.func7
    (ChangeSpec.witness_shaped (enc := enc) (C := Tryz.checked) (os := os) (X := fun w _ => laidMetH Tryz.prog laid2 w) false (World.doorLaid Tryz.prog 147 os) #[.string ByteArray.empty, .int .u16 0] 8 rfl (World.shaped_of_RefB (by kernel_rfl) (by kernel_rfl)) (by kernel_rfl) (by kernel_rfl) (by kernel_rfl) (door_met os _)) ?_
  intro W base args ds gs before hval0 hW hcnd hsz hL _
  have hval : ∀ (j : Nat) t v, Tryz.f7.params[j]? = some t → args[j]? = some v → Value.okWide Tryz.prog W .any base t v := hval0
  have hW' := hW
  obtain ⟨p, q, hA0, hV, rfl, hfz, hnd⟩ := hW
  have hA : DataW.TrodAll enc Tryz.prog W 0 (fun _ => true) true Tryz.f7.params.toList args.toList ds p := hA0
  rw [Tryz.params7] at hA hval
  obtain ⟨v0, vs0, d0, ds0, p0, q0, hargs, rfl, rfl, h0, r0⟩ := trodAll_cons hA
  obtain ⟨v1, vs1, d1, ds1, p1, q1, rfl, rfl, rfl, h1, r1⟩ := trodAll_cons r0
  obtain ⟨rfl, rfl, rfl⟩ := trodAll_nil r1
  obtain rfl : args = #[v0, v1] := by cases args; simp_all
  obtain ⟨rfl, rfl⟩ := trodVars_none hV
  obtain ⟨a0, rfl, rfl, rfl, w0⟩ := open_string Tryz.underlying9 (hval 0 9 v0 rfl rfl) h0
  obtain ⟨a1, rfl, rfl, rfl, w1⟩ := open_int Tryz.underlying49 (hval 1 49 v1 rfl rfl) h1
  clear hA0 hval0
  simp only [List.append_nil] at hW'
  refine (walk a0 a1 W (tabs_of_laid hL) w1).mono fun e W' ⟨he, hg⟩ => ?_
  subst he
  exact ⟨_, rfl, _, _, _, [], [], [], hW', trodAll_cons_mk (shut_bool Tryz.underlying4 _) trodAll_mk0, (trodAll_cons_mk (shut_string Tryz.underlying9 w0) (trodAll_cons_mk (shut_int Tryz.underlying49 w1) trodAll_mk0)), rfl, hg.frame _, fun h => by cases h⟩

theorem over : Rows.SyntaxCutsSaid :=
  OpenClaim.holds_of_wide 7 Tryz.f7 rfl rfl rfl rfl rfl rfl rfl ⟨rfl, rfl, rfl, rfl, rfl⟩ rfl rfl rfl rfl rfl (by kernel_rfl) Tryz.func7 (by kernel_rfl)
    (of_decide_eq_true (by kernel_rfl)) (by unfold Func.isWrapper; first | (rw [if_pos (by decide +kernel)]; kernel_rfl) | (rw [if_neg (by decide +kernel)]; exact ⟨rfl, rfl⟩))
    (fun os started H enc _ => lifted os started H enc)

theorem proved : Rows.SyntaxCutsCardSaid :=
  Claim7.holds_tied_plain_at .later [] [.data, .data, .data, .sentinel, .sentinel, .data, .data] true (true, "abebc9e3d2012f8a3a6387e75e3cebb5988369673ac337af31cdbc509527c4ad") true
    over (fun _ h => by cases h) (by kernel_rfl) (fun _ h => by cases h) syntaxCuts_row_tie rfl ⟨rfl, rfl⟩ (by kernel_rfl) rfl
    (fun f fn hf hfn => by
      obtain rfl : f = 7 := Option.some.inj ((show Tryz.prog.funcNamed Rows.syntaxCutsRow.func = some 7 by kernel_rfl).symm.trans hf) |>.symm
      obtain rfl : fn = Tryz.f7 := (Option.some.inj (Tryz.func7.symm.trans hfn)).symm
      exact ⟨by kernel_rfl, fun j t ht => by
        rw [Tryz.params7] at ht
        rcases j with _ | j
        · obtain rfl : t = 9 := by simpa using ht.symm
          exact (show Tryz.prog.wantsStandIn 9 = false by kernel_rfl)
        rcases j with _ | j
        · obtain rfl : t = 49 := by simpa using ht.symm
          exact (show Tryz.prog.wantsStandIn 49 = false by kernel_rfl)
        simp at ht⟩)
    (by kernel_rfl)
#print axioms proved
end Go.Proofs.YtkabhlogkodlnaaGreatDoor.syntaxCuts
