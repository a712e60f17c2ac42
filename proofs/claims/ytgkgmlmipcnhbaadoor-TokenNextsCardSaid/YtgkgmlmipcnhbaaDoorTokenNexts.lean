/-
  TokenNexts: for every text and every number the statement answers true, and its arguments read as before. No condition but that the two tables lie as the program's text lays them (the tie).
-/
import Derived.Test.YtgkgmlmipcnhbaaDoorRows
import Derived.Test.YtgkgmlmipcnhbaaDoorCards
import Derived.Test.YtgkgmlmipcnhbaaDoorTie
import Derived.WalkKit
import Derived.WalkSpells
import Derived.ProofKit
import Derived.OpenShut
import Derived.ShutString
import Derived.Lib.SmallJoins
import Derived.SevenTiedAt
import Derived.Test.YtgkgmlmipcnhbaaDoorLaid
import Derived.Test.YtgkgmlmipcnhbaaDoorAwake
import Derived.Test.YtgkgmlmipcnhbaaDoorRefAll
namespace Go.Proofs.YtgkgmlmipcnhbaaDoor.tokenNexts
open Go.ChangeShapes Go.WideShapes Go.ChangeAt Go.RowKit Go.Proofs.YtgkgmlmipcnhbaaDoor Go.Joins
open Go.ChangeMaps (open_string shut_string)
set_option linter.unusedVariables false


theorem wf_u16 {n : Int} (h : (Lit.int .u16 n).wf = true) : 0 ≤ n ∧ n < 65536 := by
  have e1 : IntKind.u16.min = 0 := rfl
  have e2 : IntKind.u16.max = 65535 := rfl
  simp [Lit.wf, e1, e2] at h
  omega
theorem tokV_eq (x : Tok) : tokV x = .agg #[.int .i64 (x.kind : Int), .int .i64 (x.lo : Int), .int .i64 (x.hi : Int)] := rfl
set_option maxHeartbeats 1000000 in
/-- TokenNexts answers true, and leaves what there was. -/
theorem walk (a0 : ByteArray) (a1 : Int) (w1 : (Lit.int .u16 a1).wf = true) (w : World) (hT : Tabs w) :
    Calls Tryd.prog 4 #[.string a0, .int .u16 a1] w fun e w' => e = .returned (.bool true) ∧ Below w.heap.size w w' := by
  by_cases hs : a0.size ≤ 300
  · have hs0 : decide ((300 : Int) < (a0.size : Int)) = false := by simp; omega
    have HT := Lib.hid hT
    clear hT
    obtain ⟨h0, h1⟩ : 0 ≤ a1 ∧ a1 < 65536 := wf_u16 w1
    clear w1
    obtain ⟨n, rfl⟩ := Int.eq_ofNat_of_zero_le h0
    have hm : n % (a0.size + 1) ≤ a0.size := by have := Nat.mod_lt n (show 0 < a0.size + 1 by omega); omega
    have HA := Lib.hid (fun W hW => next_calls a0 (by omega) (n % (a0.size + 1)) hm W hW)
    have HR := Lib.hid (fun W hW => refNext_calls a0 (by omega) (n % (a0.size + 1)) hm W hW)
    generalize nextT a0.data.toList (n % (a0.size + 1)) = x at HA HR
    generalize nextBad a0.data.toList (n % (a0.size + 1)) = b at HA HR
    have e1 : ((n : Int) % ((a0.size : Int) + 1)) = ((n % (a0.size + 1) : Nat) : Int) := by simp
    have HE := Lib.hid e1
    clear e1
    go_enter Tryd.func4, Tryd.ntmps4
    go_wp2_with fail
    refine (awake_calls _ HT.out).mono ?_
    rintro e w1 ⟨rfl, hB1⟩
    have HT1 := Lib.hid (HT.out.below hB1 HT.out.2.2)
    go_wp2_with fail
    rw [HE.out]
    generalize n % (a0.size + 1) = k at HA HR hm
    clear HE
    obtain ⟨kd, lo, hi⟩ := x
    rw [tokV_eq] at HA HR
    dsimp only at HA HR
    refine (HA.out _ HT1.out).mono ?_
    rintro e w2 ⟨rfl, hB2⟩
    have hB12 := hB1.trans (hB2.mono hB1.size)
    have hB12a := hB12.alloc hB12.size (.cells #[.int .i64 (kd : Int), .int .i64 (lo : Int), .int .i64 (hi : Int)] 35)
    have HT2 := Lib.hid (HT.out.below hB12a HT.out.2.2)
    go_wp2_with fail
    refine (HR.out _ HT2.out).mono ?_
    rintro e w3 ⟨rfl, hB3⟩
    have hB13 := hB12a.trans (hB3.mono hB12a.size)
    have hz : w2.heap.size < w3.heap.size := by have := hB3.size; simp at this; omega
    have c0 : w3.cell? ⟨w2.heap.size, 0, none⟩ = some (.int .i64 (kd : Int)) := by rw [hB3.cell (p := ⟨w2.heap.size, 0, none⟩) (by simp)]; simp
    have c1 : w3.cell? ⟨w2.heap.size, 1, none⟩ = some (.int .i64 (lo : Int)) := by rw [hB3.cell (p := ⟨w2.heap.size, 1, none⟩) (by simp)]; simp
    have c2 : w3.cell? ⟨w2.heap.size, 2, none⟩ = some (.int .i64 (hi : Int)) := by rw [hB3.cell (p := ⟨w2.heap.size, 2, none⟩) (by simp)]; simp
    have hB14 := hB13.alloc hB13.size (.cells #[.int .i64 (kd : Int), .int .i64 (lo : Int), .int .i64 (hi : Int)] 35)
    clear hB1 hB2 hB12 hB12a hB3 hB13
    go_wp2
    go_ret
    exact ⟨rfl, hB14⟩
  · have hs' : 300 < a0.size := by omega
    go_enter Tryd.func4, Tryd.ntmps4
    go_wp2_with fail
    refine (awake_calls _ hT).mono ?_
    rintro e w1 ⟨rfl, hB1⟩
    have hT1 := Lib.hid (hT.below hB1 hT.2.2)
    go_wp2_with fail
    refine (awake_calls _ hT1.out).mono ?_
    rintro e w2 ⟨rfl, hB2⟩
    go_wp2
    go_ret
    exact ⟨rfl, hB1.trans (hB2.mono hB1.size)⟩

set_option maxRecDepth 100000 in
theorem lifted (os : Os) (started : os.Started) (H : Type) (enc : TypeId × Value → H) :
    ReturnsInHanded {} Tryd.checked os 4 .any (fun w args => (Rows.tokenNextsSpec.pre enc Tryd.prog Tryd.f4 [] false w args ∧ laidMetH Tryd.prog laid2 w) ∧ sizedMet enc Tryd.prog Tryd.f4 (OpenSpec.ofChange Rows.tokenNextsSpec) false w args)
      (Rows.tokenNextsSpec.post enc Tryd.prog Tryd.f4 false true false false) := by
  refine returnsInHanded_of_change_and (C := Tryd.checked) (X := fun w _ => laidMetH Tryd.prog laid2 w) (fun _ _ _ hh h => h.of_heap hh) Tryd.own started (by kernel_rfl) Tryd.func4
    (ChangeSpec.witness_shaped (enc := enc) (C := Tryd.checked) (os := os) (X := fun w _ => laidMetH Tryd.prog laid2 w) false (World.doorLaid Tryd.prog 19 os) #[.string ByteArray.empty, .int .u16 0] 8 rfl (World.shaped_of_RefB (by kernel_rfl) (by kernel_rfl)) (by kernel_rfl) (by kernel_rfl) (by kernel_rfl) (door_met os _)) ?_
  intro W base args ds gs before hval0 hW hcnd hsz hL _
  have hval : ∀ (j : Nat) t v, Tryd.f4.params[j]? = some t → args[j]? = some v → Value.okWide Tryd.prog W .any base t v := hval0
  have hW' := hW
  obtain ⟨p, q, hA0, hV, rfl, hfz, hnd⟩ := hW
  have hA : DataW.TrodAll enc Tryd.prog W 0 (fun _ => true) true Tryd.f4.params.toList args.toList ds p := hA0
  rw [Tryd.params4] at hA hval
  obtain ⟨v0, vs0, d0, ds0, p0, q0, hargs, rfl, rfl, h0, r0⟩ := trodAll_cons hA
  obtain ⟨v1, vs1, d1, ds1, p1, q1, rfl, rfl, rfl, h1, r1⟩ := trodAll_cons r0
  obtain ⟨rfl, rfl, rfl⟩ := trodAll_nil r1
  obtain rfl : args = #[v0, v1] := by cases args; simp_all
  obtain ⟨rfl, rfl⟩ := trodVars_none hV
  obtain ⟨a0, rfl, rfl, rfl, w0⟩ := open_string Tryd.underlying9 (hval 0 9 v0 rfl rfl) h0
  obtain ⟨a1, rfl, rfl, rfl, w1⟩ := open_int Tryd.underlying31 (hval 1 31 v1 rfl rfl) h1
  clear hA0 hval0
  simp only [List.append_nil] at hW'
  refine (walk a0 a1 w1 W (tabs_of_laid hL)).mono fun e W' ⟨he, hg⟩ => ?_
  subst he
  exact ⟨_, rfl, _, _, _, [], [], [], hW', trodAll_cons_mk (shut_bool Tryd.underlying4 _) trodAll_mk0, (trodAll_cons_mk (shut_string Tryd.underlying9 w0) (trodAll_cons_mk (shut_int Tryd.underlying31 w1) trodAll_mk0)), rfl, hg.frame _, fun h => by cases h⟩

theorem over : Rows.TokenNextsSaid :=
  OpenClaim.holds_of_wide 4 Tryd.f4 rfl rfl rfl rfl rfl rfl rfl ⟨rfl, rfl, rfl, rfl, rfl⟩ rfl rfl rfl rfl rfl (by kernel_rfl) Tryd.func4 (by kernel_rfl)
    (of_decide_eq_true (by kernel_rfl)) (by unfold Func.isWrapper; first | (rw [if_pos (by decide +kernel)]; kernel_rfl) | (rw [if_neg (by decide +kernel)]; exact ⟨rfl, rfl⟩))
    (fun os started H enc _ => lifted os started H enc)

theorem proved : Rows.TokenNextsCardSaid :=
  Claim7.holds_tied_plain_at .later [] [.data, .data] true (true, "c636495ec6298d58b466a6f6a960e32b1ffcd4c1fdb3433c90403f0844daf1ec") false
    over (fun _ h => by cases h) (by kernel_rfl) (fun _ h => by cases h) tokenNexts_row_tie rfl ⟨rfl, rfl⟩ (by kernel_rfl) rfl
    (fun f fn hf hfn => by
      obtain rfl : f = 4 := Option.some.inj ((show Tryd.prog.funcNamed Rows.tokenNextsRow.func = some 4 by kernel_rfl).symm.trans hf) |>.symm
      obtain rfl : fn = Tryd.f4 := (Option.some.inj (Tryd.func4.symm.trans hfn)).symm
      exact ⟨by kernel_rfl, fun j t ht => by
        rw [Tryd.params4] at ht
        rcases j with _ | _ | j
        · obtain rfl : t = 9 := by simpa using ht.symm
          exact (show Tryd.prog.wantsStandIn 9 = false by kernel_rfl)
        · obtain rfl : t = 31 := by simpa using ht.symm
          exact (show Tryd.prog.wantsStandIn 31 = false by kernel_rfl)
        · simp at ht⟩)
    (by kernel_rfl)
#print axioms proved
end Go.Proofs.YtgkgmlmipcnhbaaDoor.tokenNexts
