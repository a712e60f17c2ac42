/-
  TokenAlls: for every text the statement answers true, and its argument reads as before. No condition but that the two tables lie as the program's text lays them (the tie).
-/
import Derived.Test.YtgkgmlmipcnhbaaDoorRows
import Derived.Test.YtgkgmlmipcnhbaaDoorCards
import Derived.Test.YtgkgmlmipcnhbaaDoorTie
import Derived.WalkKit
import Derived.WalkSpells
import Derived.ProofKit
import Derived.OpenShut
import Derived.ShutString
import Derived.Lib.SmallJoins
import Derived.SevenTiedAt
import Derived.Test.YtgkgmlmipcnhbaaDoorLaid
import Derived.Test.YtgkgmlmipcnhbaaDoorAwake
import Derived.Test.YtgkgmlmipcnhbaaDoorRefAll
namespace Go.Proofs.YtgkgmlmipcnhbaaDoor.tokenAlls
open Go.ChangeShapes Go.WideShapes Go.ChangeAt Go.RowKit Go.Proofs.YtgkgmlmipcnhbaaDoor Go.Joins
open Go.ChangeMaps (open_string shut_string)
set_option linter.unusedVariables false


set_option maxHeartbeats 1000000 in
/-- TokenAlls answers true, and leaves what there was. -/
theorem walk (a0 : ByteArray) (w : World) (hT : Tabs w) :
    Calls Tryd.prog 3 #[.string a0] w fun e w' => e = .returned (.bool true) ∧ Below w.heap.size w w' := by
  by_cases hs : a0.size ≤ 500
  · have hs0 : decide ((500 : Int) < (a0.size : Int)) = false := by simp; omega
    have HT := Lib.hid hT
    clear hT
    have hlen := toks_len a0
    have HA := Lib.hid (fun W hW => all_calls a0 (by omega) W hW)
    have HR := Lib.hid (fun W hW => refAll_calls a0 (by omega) W hW)
    go_enter Tryd.func3, Tryd.ntmps3
    go_wp2_with fail
    refine (awake_calls _ HT.out).mono ?_
    rintro e w1 ⟨rfl, hB1⟩
    have HT1 := Lib.hid (HT.out.below hB1 HT.out.2.2)
    go_wp2_with fail
    refine (HA.out _ HT1.out).mono ?_
    rintro e w2 ⟨hB2, h2⟩
    have HT2 := Lib.hid (HT1.out.below hB2 HT1.out.2.2)
    have hB12 := hB1.trans (hB2.mono hB1.size)
    rcases h2 with ⟨p, hp, rfl⟩ | ⟨hp, A, c, rfl, ht⟩
    · have HP := Lib.hid hp
      clear hp
      go_wp2_with fail
      refine (HR.out _ HT2.out).mono ?_
      rintro e w3 ⟨hB3, h3⟩
      have h3' : e = .returned (.tuple #[.slice none 0 0, .int .i64 (p : Int), .int .i64 2]) := by
        rcases h3 with ⟨p', hp', rfl⟩ | ⟨hp', _⟩
        · rw [HP.out] at hp'; cases hp'; rfl
        · rw [HP.out] at hp'; cases hp'
      subst h3'
      clear h3
      have hB13 := hB12.trans (hB3.mono hB12.size)
      go_wp2_with fail
      refine (same_calls none none 0 0 0 [] (by omega) _ 0 ⟨rfl, fun h => absurd h (by omega)⟩ ⟨rfl, fun h => absurd h (by omega)⟩).mono ?_
      rintro e w4 ⟨rfl, hB4⟩
      go_wp2
      go_ret
      exact ⟨rfl, hB13.trans (hB4.mono hB13.size)⟩
    · have HP := Lib.hid hp
      clear hp
      generalize hxs : (toks a0.data.toList 0).1 = xs at hlen ht ⊢
      have HXS := Lib.hid hxs
      clear hxs
      go_wp2_with fail
      refine (HR.out _ HT2.out).mono ?_
      rintro e w3 ⟨hB3, h3⟩
      rcases h3 with ⟨p', hp', rfl⟩ | ⟨hp', A', c', rfl, ht'⟩
      · have := HP.out; rw [hp'] at this; cases this
      rw [HXS.out] at ht' ⊢
      clear hp'
      have hB13 := hB12.trans (hB3.mono hB12.size)
      have HX := Lib.hid (ht.below hB3 (Nat.le_refl _))
      have HY := Lib.hid (ht'.mono (Nat.le_refl _))
      clear ht ht'
      go_wp2_with fail
      refine (same_calls A A' xs.length c c' xs (by omega) _ _ (HX.out.mono hB3.size) HY.out).mono ?_
      rintro e w4 ⟨rfl, hB4⟩
      go_wp2
      go_ret
      exact ⟨rfl, hB13.trans (hB4.mono hB13.size)⟩
  · have hs' : 500 < a0.size := by omega
    go_enter Tryd.func3, Tryd.ntmps3
    go_wp2_with fail
    refine (awake_calls _ hT).mono ?_
    rintro e w1 ⟨rfl, hB1⟩
    have hT1 := Lib.hid (hT.below hB1 hT.2.2)
    go_wp2_with fail
    refine (awake_calls _ hT1.out).mono ?_
    rintro e w2 ⟨rfl, hB2⟩
    go_wp2
    go_ret
    exact ⟨rfl, hB1.trans (hB2.mono hB1.size)⟩

set_option maxRecDepth 100000 in
theorem lifted (os : Os) (started : os.Started) (H : Type) (enc : TypeId × Value → H) :
    ReturnsInHanded {} Tryd.checked os 3 .any (fun w args => (Rows.tokenAllsSpec.pre enc Tryd.prog Tryd.f3 [] false w args ∧ laidMetH Tryd.prog laid2 w) ∧ sizedMet enc Tryd.prog Tryd.f3 (OpenSpec.ofChange Rows.tokenAllsSpec) false w args)
      (Rows.tokenAllsSpec.post enc Tryd.prog Tryd.f3 false true false false) := by
  refine returnsInHanded_of_change_and (C := Tryd.checked) (X := fun w _ => laidMetH Tryd.prog laid2 w) (fun _ _ _ hh h => h.of_heap hh) Tryd.own started (by kernel_rfl) Tryd.func3
    (ChangeSpec.witness_shaped (enc := enc) (C := Tryd.checked) (os := os) (X := fun w _ => laidMetH Tryd.prog laid2 w) false (World.doorLaid Tryd.prog 19 os) #[.string ByteArray.empty] 8 rfl (World.shaped_of_RefB (by kernel_rfl) (by kernel_rfl)) (by kernel_rfl) (by kernel_rfl) (by kernel_rfl) (door_met os _)) ?_
  intro W base args ds gs before hval0 hW hcnd hsz hL _
  have hval : ∀ (j : Nat) t v, Tryd.f3.params[j]? = some t → args[j]? = some v → Value.okWide Tryd.prog W .any base t v := hval0
  have hW' := hW
  obtain ⟨p, q, hA0, hV, rfl, hfz, hnd⟩ := hW
  have hA : DataW.TrodAll enc Tryd.prog W 0 (fun _ => true) true Tryd.f3.params.toList args.toList ds p := hA0
  rw [Tryd.params3] at hA hval
  obtain ⟨v0, vs0, d0, ds0, p0, q0, hargs, rfl, rfl, h0, r0⟩ := trodAll_cons hA
  obtain ⟨rfl, rfl, rfl⟩ := trodAll_nil r0
  obtain rfl : args = #[v0] := by cases args; simp_all
  obtain ⟨rfl, rfl⟩ := trodVars_none hV
  obtain ⟨a0, rfl, rfl, rfl, w0⟩ := open_string Tryd.underlying9 (hval 0 9 v0 rfl rfl) h0
  clear hA0 hval0
  simp only [List.append_nil] at hW'
  refine (walk a0 W (tabs_of_laid hL)).mono fun e W' ⟨he, hg⟩ => ?_
  subst he
  exact ⟨_, rfl, _, _, _, [], [], [], hW', trodAll_cons_mk (shut_bool Tryd.underlying4 _) trodAll_mk0, (trodAll_cons_mk (shut_string Tryd.underlying9 w0) trodAll_mk0), rfl, hg.frame _, fun h => by cases h⟩

theorem over : Rows.TokenAllsSaid :=
  OpenClaim.holds_of_wide 3 Tryd.f3 rfl rfl rfl rfl rfl rfl rfl ⟨rfl, rfl, rfl, rfl, rfl⟩ rfl rfl rfl rfl rfl (by kernel_rfl) Tryd.func3 (by kernel_rfl)
    (of_decide_eq_true (by kernel_rfl)) (by unfold Func.isWrapper; first | (rw [if_pos (by decide +kernel)]; kernel_rfl) | (rw [if_neg (by decide +kernel)]; exact ⟨rfl, rfl⟩))
    (fun os started H enc _ => lifted os started H enc)

theorem proved : Rows.TokenAllsCardSaid :=
  Claim7.holds_tied_plain_at .later [] [.data, .data] true (true, "c636495ec6298d58b466a6f6a960e32b1ffcd4c1fdb3433c90403f0844daf1ec") false
    over (fun _ h => by cases h) (by kernel_rfl) (fun _ h => by cases h) tokenAlls_row_tie rfl ⟨rfl, rfl⟩ (by kernel_rfl) rfl
    (fun f fn hf hfn => by
      obtain rfl : f = 3 := Option.some.inj ((show Tryd.prog.funcNamed Rows.tokenAllsRow.func = some 3 by kernel_rfl).symm.trans hf) |>.symm
      obtain rfl : fn = Tryd.f3 := (Option.some.inj (Tryd.func3.symm.trans hfn)).symm
      exact ⟨by kernel_rfl, fun j t ht => by
        rw [Tryd.params3] at ht
        rcases j with _ | j
        · obtain rfl : t = 9 := by simpa using ht.symm
          exact (show Tryd.prog.wantsStandIn 9 = false by kernel_rfl)
        · simp at ht⟩)
    (by kernel_rfl)
#print axioms proved
end Go.Proofs.YtgkgmlmipcnhbaaDoor.tokenAlls
