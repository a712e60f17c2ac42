/-
  SyntaxComments: for every text and every comment the statement answers true. No condition but that the listed variables lie as the program's text lays them (the tie).
-/
import Derived.Test.YtccmodefjgjpeaaGreatDoorRows
import Derived.Test.YtccmodefjgjpeaaGreatDoorCards
import Derived.Test.YtccmodefjgjpeaaGreatDoorTie
import Derived.WalkKit
import Derived.WalkSpells
import Derived.ProofKit
import Derived.OpenShut
import Derived.ShutString
import Derived.Lib.SmallJoins
import Derived.SevenTiedAt
import Derived.Test.YtccmodefjgjpeaaGreatDoorLaidS
import Derived.Test.YtccmodefjgjpeaaGreatDoorAwakeS
import Derived.Test.YtccmodefjgjpeaaGreatDoorPRes
import Derived.Test.YtccmodefjgjpeaaGreatDoorTwo
import Derived.Test.YtccmodefjgjpeaaGreatDoorLenM
import Derived.Test.YtccmodefjgjpeaaGreatDoorCntM
import Derived.Test.YtccmodefjgjpeaaGreatDoorSameT
namespace Go.Proofs.YtccmodefjgjpeaaGreatDoor.syntaxComments
open Go.ChangeShapes Go.WideShapes Go.ChangeAt Go.RowKit Go.Proofs.YtccmodefjgjpeaaGreatDoor Go.Joins
open Go.ChangeMaps (open_string shut_string)
set_option linter.unusedVariables false


theorem first_nl (c : ByteArray) : (∃ p, ∃ h : p < c.size, c[p] = 10 ∧ ∀ j (hj : j < c.size), j < p → c[j] ≠ 10) ∨ (∀ j (hj : j < c.size), c[j] ≠ 10) := by
  have key : ∀ n, (∃ p, ∃ h : p < c.size, p < n ∧ c[p] = 10 ∧ ∀ j (hj : j < c.size), j < p → c[j] ≠ 10) ∨ (∀ j (hj : j < c.size), j < n → c[j] ≠ 10) := by
    intro n
    induction n with
    | zero => exact .inr (fun j _ h => absurd h (by omega))
    | succ n ih =>
      rcases ih with ⟨p, h, hp, h1, h2⟩ | h
      · exact .inl ⟨p, h, by omega, h1, h2⟩
      · by_cases hn : n < c.size
        · by_cases hc : c[n] = 10
          · exact .inl ⟨n, hn, by omega, hc, h⟩
          · refine .inr (fun j hj hjn => ?_)
            by_cases e : j = n
            · subst e; exact hc
            · exact h j hj (by omega)
        · exact .inr (fun j hj hjn => h j hj (by omega))
  rcases key c.size with ⟨p, h, _, h1, h2⟩ | h
  · exact .inl ⟨p, h, h1, h2⟩
  · exact .inr (fun j hj => h j hj hj)

set_option maxRecDepth 100000 in
set_option maxHeartbeats 4000000 in
/-- SyntaxComments answers true, and leaves what there was. -/
theorem walk (a0 a1 : ByteArray) (w : World) (hT : Tabs w) :
    Calls Tryz.prog 9 #[.string a0, .string a1] w fun e w' => e = .returned (.bool true) ∧ Below w.heap.size w w' := by
  have HT := Lib.hid hT
  have h2 := hT.2.2
  clear hT
  by_cases hs : a0.size ≤ 600
  · have hd : decide ((600 : Int) < (a0.size : Int)) = false := decide_eq_false (by omega)
    by_cases hs1 : a1.size ≤ 100
    · have hd1 : decide ((100 : Int) < (a1.size : Int)) = false := decide_eq_false (by omega)
      rcases first_nl a1 with ⟨p, hp, hpe, hpn⟩ | hno
      · have HPN := Lib.hid hpn
        have HPE := Lib.hid hpe
        clear hpn hpe
        go_enter Tryz.func9, Tryz.ntmps9
        go_wp2_with fail
        refine (awake_calls _ HT.out).mono ?_
        rintro e w1 ⟨rfl, hB1⟩
        have HT1 := Lib.hid (HT.out.below hB1 h2)
        have HB1 := Lib.hid hB1
        clear hB1
        go_wp2
        go_loop [27] (fun a => ∃ i : Nat, i ≤ p ∧ a = .int .i64 i) (fun a => p - (intOf a).toNat)
        case atStart => exact ⟨0, Nat.zero_le _, rfl⟩
        case round =>
          obtain ⟨i, hi, rfl⟩ := hrel
          have hi1 : (i : Int) < (a1.size : Int) := by omega
          have hi0 : (0 : Int) ≤ (i : Int) := by omega
          by_cases hlt : i < p
          · have hne := (bytes_ne _ 10 (by omega) (HPN.out i (by omega) hlt)).1
            go_wp2
            go_round
            case rel => exact ⟨i + 1, by omega, by go_num⟩
            case measure => simp [intOf]; omega
          · obtain rfl : i = p := by omega
            have heq : ((a1[i].toNat : Int) == (10 : Int)) = true := by rw [HPE.out]; rfl
            go_wp2
            go_ret
            exact ⟨rfl, HB1.out⟩
      · have hC : ∀ d ∈ a1.data.toList, d ≠ 10 := by
          intro d hd
          obtain ⟨j, hj, rfl⟩ := List.mem_iff_getElem.1 hd
          exact hno j (by rw [sizeL] at hj; exact hj)
        have HNO := Lib.hid hno
        clear hno
        have z1 : (a0 ++ (⟨#[10, 35]⟩ : ByteArray)).size = a0.size + 2 := by rw [ByteArray.size_append]; rfl
        have z2 : (a0 ++ (⟨#[10, 35]⟩ : ByteArray) ++ a1).size = a0.size + 2 + a1.size := by rw [ByteArray.size_append, z1]
        have v1 : (9223372036854775807 < a0.size + (⟨#[10, 35]⟩ : ByteArray).size) = False := eq_false (by rw [show (⟨#[10, 35]⟩ : ByteArray).size = 2 from rfl]; omega)
        have v1' : (9223372036854775807 < a0.size + 2) = False := eq_false (by omega)
        have v2 : (9223372036854775807 < (a0 ++ (⟨#[10, 35]⟩ : ByteArray)).size + a1.size) = False := eq_false (by rw [z1]; omega)
        have v3 : (9223372036854775807 < a0.size + (⟨#[10, 35]⟩ : ByteArray).size + a1.size) = False := eq_false (by rw [show (⟨#[10, 35]⟩ : ByteArray).size = 2 from rfl]; omega)
        have v3' : (9223372036854775807 < a0.size + 2 + a1.size) = False := eq_false (by omega)
        have HF1 := Lib.hid (fun W hW => front_calls a0 (by omega) W hW)
        have HF2 := Lib.hid (fun W hW => front_calls (a0 ++ (⟨#[10, 35]⟩ : ByteArray) ++ a1) (by omega) W hW)
        have e2 : (a0 ++ (⟨#[10, 35]⟩ : ByteArray) ++ a1).data.toList = a0.data.toList ++ tailC a1.data.toList := by
          rw [ByteArray.data_append, ByteArray.data_append, Array.toList_append, Array.toList_append, List.append_assoc]; rfl
        rw [e2] at HF2
        clear e2 z1 z2
        cases hres : parseT a0.data.toList with
        | bad p c =>
          have hc := (parseT_bad hres).2
          have HR := Lib.hid hres
          have hc0 : ((c : Int) == 0) = false := by rw [beq_eq_false_iff_ne]; omega
          clear hres
          cases hres2 : parseT (a0.data.toList ++ tailC a1.data.toList) with
          | bad p2 c2 =>
            have hc2 := (parseT_bad hres2).2
            have HR2 := Lib.hid hres2
            have hc20 : ((c2 : Int) == 0) = false := by rw [beq_eq_false_iff_ne]; omega
            clear hres2
            go_enter Tryz.func9, Tryz.ntmps9
            go_wp2_with fail
            refine (awake_calls _ HT.out).mono ?_
            rintro e w1 ⟨rfl, hB1⟩
            have HT1 := Lib.hid (HT.out.below hB1 h2)
            have HB1 := Lib.hid hB1
            clear hB1
            go_wp2
            go_loop [27] (fun a => ∃ i : Nat, i ≤ a1.size ∧ a = .int .i64 i) (fun a => a1.size - (intOf a).toNat)
            case atStart => exact ⟨0, Nat.zero_le _, rfl⟩
            case round =>
              obtain ⟨i, hi, rfl⟩ := hrel
              by_cases hlt : i < a1.size
              · have hne := (bytes_ne _ 10 (by omega) (HNO.out i hlt)).1
                have hi1 : (i : Int) < (a1.size : Int) := by omega
                have hi0 : (0 : Int) ≤ (i : Int) := by omega
                go_wp2
                go_round
                case rel => exact ⟨i + 1, by omega, by go_num⟩
                case measure => simp [intOf]; omega
              · obtain rfl : i = a1.size := by omega
                go_wp2_with fail
                refine (HF1.out _ HT1.out).mono ?_
                intro e w2 h3
                obtain ⟨hB2, rfl⟩ := h3.bad HR.out
                have HB2 := Lib.hid (HB1.out.trans (hB2.mono HB1.out.size))
                clear hB2 h3
                unfold nilT
                have HB2' := Lib.hid (HB2.out.alloc HB2.out.size (.cells #[.slice none 0 0, .slice none 0 0, .slice none 0 0] 27))
                have HT2 := Lib.hid (HT.out.below HB2'.out h2)
                go_wp2_with fail
                refine (HF2.out _ HT2.out).mono ?_
                intro e w3 h4
                obtain ⟨hB3, rfl⟩ := h4.bad HR2.out
                have HB3 := Lib.hid (HB2'.out.trans (hB3.mono HB2'.out.size))
                clear hB3 h4
                unfold nilT
                go_wp2
                go_ret
                exact ⟨rfl, HB3.out.alloc HB3.out.size _⟩
          | good s2 =>
            have hn := parseT_good hres2
            have HR2 := Lib.hid hres2
            have d1 : decide ((0 : Int) < (s2.fn.length : Int)) = true := decide_eq_true (by omega)
            have d2 : decide (0 < s2.fn.length) = true := decide_eq_true hn
            clear hres2 hn
            go_enter Tryz.func9, Tryz.ntmps9
            go_wp2_with fail
            refine (awake_calls _ HT.out).mono ?_
            rintro e w1 ⟨rfl, hB1⟩
            have HT1 := Lib.hid (HT.out.below hB1 h2)
            have HB1 := Lib.hid hB1
            clear hB1
            go_wp2
            go_loop [27] (fun a => ∃ i : Nat, i ≤ a1.size ∧ a = .int .i64 i) (fun a => a1.size - (intOf a).toNat)
            case atStart => exact ⟨0, Nat.zero_le _, rfl⟩
            case round =>
              obtain ⟨i, hi, rfl⟩ := hrel
              by_cases hlt : i < a1.size
              · have hne := (bytes_ne _ 10 (by omega) (HNO.out i hlt)).1
                have hi1 : (i : Int) < (a1.size : Int) := by omega
                have hi0 : (0 : Int) ≤ (i : Int) := by omega
                go_wp2
                go_round
                case rel => exact ⟨i + 1, by omega, by go_num⟩
                case measure => simp [intOf]; omega
              · obtain rfl : i = a1.size := by omega
                go_wp2_with fail
                refine (HF1.out _ HT1.out).mono ?_
                intro e w2 h3
                obtain ⟨hB2, rfl⟩ := h3.bad HR.out
                have HB2 := Lib.hid (HB1.out.trans (hB2.mono HB1.out.size))
                clear hB2 h3
                unfold nilT
                have HB2' := Lib.hid (HB2.out.alloc HB2.out.size (.cells #[.slice none 0 0, .slice none 0 0, .slice none 0 0] 27))
                have HT2 := Lib.hid (HT.out.below HB2'.out h2)
                go_wp2_with fail
                refine (HF2.out _ HT2.out).mono ?_
                intro e w3 h4
                obtain ⟨hB3, v, rfl, ht⟩ := h4.good HR2.out
                obtain ⟨A1, c1, A2, c2, A3, c3, rfl⟩ := ht.form
                have HB3 := Lib.hid (HB2'.out.trans (hB3.mono HB2'.out.size))
                clear hB3 h4 ht
                go_wp2
                go_ret
                exact ⟨rfl, HB3.out.alloc HB3.out.size _⟩
        | good s =>
          have hl : a0.data.toList.length = a0.size := sizeL _
          have hfew := parse_few a0.data.toList (by omega) hres
          have hcnt := parse_cnt hres
          have HLEN := Lib.hid (parse_len hres)
          have HR := Lib.hid hres
          have HR2 := Lib.hid (parse_tail a0.data.toList a1.data.toList hC (by omega) hres hfew.1)
          clear hres
          go_enter Tryz.func9, Tryz.ntmps9
          go_wp2_with fail
          refine (awake_calls _ HT.out).mono ?_
          rintro e w1 ⟨rfl, hB1⟩
          have HT1 := Lib.hid (HT.out.below hB1 h2)
          have HB1 := Lib.hid hB1
          clear hB1
          go_wp2
          go_loop [27] (fun a => ∃ i : Nat, i ≤ a1.size ∧ a = .int .i64 i) (fun a => a1.size - (intOf a).toNat)
          case atStart => exact ⟨0, Nat.zero_le _, rfl⟩
          case round =>
            obtain ⟨i, hi, rfl⟩ := hrel
            by_cases hlt : i < a1.size
            · have hne := (bytes_ne _ 10 (by omega) (HNO.out i hlt)).1
              have hi1 : (i : Int) < (a1.size : Int) := by omega
              have hi0 : (0 : Int) ≤ (i : Int) := by omega
              go_wp2
              go_round
              case rel => exact ⟨i + 1, by omega, by go_num⟩
              case measure => simp [intOf]; omega
            · obtain rfl : i = a1.size := by omega
              go_wp2_with fail
              refine (HF1.out _ HT1.out).mono ?_
              intro e w2 h3
              obtain ⟨hB2, v, rfl, ht⟩ := h3.good HR.out
              obtain ⟨A1, c1, A2, c2, A3, c3, rfl⟩ := ht.form
              have HB2 := Lib.hid (HB1.out.trans (hB2.mono HB1.out.size))
              have HV := Lib.hid ht
              clear hB2 h3 ht
              have HA2 := Lib.hid ((Below.refl w2.heap.size w2).alloc (Nat.le_refl _) (.cells #[.slice A1 s.ex.length c1, .slice A2 s.st.length c2, .slice A3 s.fn.length c3] 27))
              have HK2 := Lib.hid (heap_one w2 #[.slice A1 s.ex.length c1, .slice A2 s.st.length c2, .slice A3 s.fn.length c3] 27)
              have HT2 := Lib.hid (HT.out.below (HB2.out.trans (HA2.out.mono HB2.out.size)) h2)
              go_wp2_with fail
              refine (HF2.out _ HT2.out).mono ?_
              intro e w3 h4
              obtain ⟨hB3, v, rfl, ht⟩ := h4.good HR2.out
              obtain ⟨B1, d1, B2, d2, B3, d3, rfl⟩ := ht.form
              have hs2 : (w2.alloc (.cells #[.slice A1 s.ex.length c1, .slice A2 s.st.length c2, .slice A3 s.fn.length c3] 27)).heap.size = w2.heap.size + 1 := by simp
              have hB23 : Below w2.heap.size w2 w3 := HA2.out.trans (hB3.mono (by rw [hs2]; omega))
              have k2 := (hB3.block w2.heap.size (by rw [hs2]; omega)).trans HK2.out
              have hl3 := blk_lt k2
              have hz : ∀ o, (w3.alloc (.cells #[.slice B1 s.ex.length d1, .slice B2 s.st.length d2, .slice B3 s.fn.length d3] 27)).cell? ⟨w2.heap.size, o, none⟩ = w3.cell? ⟨w2.heap.size, o, none⟩ := fun o => World.cell?_of_block (a := ⟨_, o, none⟩) (Below.heap_alloc w3 _ _ hl3)
              have q0 := (hz 0).trans ((cell_blk k2 0).trans rfl)
              have q1 := (hz 1).trans ((cell_blk k2 1).trans rfl)
              have q2 := (hz 2).trans ((cell_blk k2 2).trans rfl)
              have p0 := (cell_blk k2 0).trans rfl
              have p1 := (cell_blk k2 1).trans rfl
              have p2 := (cell_blk k2 2).trans rfl
              have HA3 := Lib.hid ((Below.refl w3.heap.size w3).alloc (Nat.le_refl _) (.cells #[.slice B1 s.ex.length d1, .slice B2 s.st.length d2, .slice B3 s.fn.length d3] 27))
              have HS := Lib.hid (sameT_calls _ _ _ _ s _ (by omega) HLEN.out (by omega) (by omega) (by omega) _ ((HV.out.below hB23).below HA3.out) (ht.below HA3.out))
              have HB3 := Lib.hid (HB2.out.trans (hB23.mono HB2.out.size))
              clear hB3 h4 ht hz k2 hB23
              go_wp2_with fail
              refine HS.out.mono ?_
              rintro e w4 ⟨rfl, hB4⟩
              go_wp2
              go_ret
              exact ⟨rfl, (HB3.out.alloc HB3.out.size _).trans (hB4.mono (by have := HB3.out.size; simp; omega))⟩
    · have hd1 : decide ((100 : Int) < (a1.size : Int)) = true := decide_eq_true (by omega)
      go_enter Tryz.func9, Tryz.ntmps9
      go_wp2_with fail
      refine (awake_calls _ HT.out).mono ?_
      rintro e w1 ⟨rfl, hB1⟩
      have HT1 := Lib.hid (HT.out.below hB1 h2)
      have HB1 := Lib.hid hB1
      clear hB1
      go_wp2_with fail
      refine (awake_calls _ HT1.out).mono ?_
      rintro e w2 ⟨rfl, hB2⟩
      go_wp2
      go_ret
      exact ⟨rfl, HB1.out.trans (hB2.mono HB1.out.size)⟩
  · have hd : decide ((600 : Int) < (a0.size : Int)) = true := decide_eq_true (by omega)
    go_enter Tryz.func9, Tryz.ntmps9
    go_wp2_with fail
    refine (awake_calls _ HT.out).mono ?_
    rintro e w1 ⟨rfl, hB1⟩
    have HT1 := Lib.hid (HT.out.below hB1 h2)
    have HB1 := Lib.hid hB1
    clear hB1
    go_wp2_with fail
    refine (awake_calls _ HT1.out).mono ?_
    rintro e w2 ⟨rfl, hB2⟩
    go_wp2
    go_ret
    exact ⟨rfl, HB1.out.trans (hB2.mono HB1.out.size)⟩


set_option maxRecDepth 100000 in
theorem lifted (os : Os) (started : os.Started) (H : Type) (enc : TypeId × Value → H) :
    ReturnsInHanded {} Tryz.checked os 9 .any (fun w args => (Rows.syntaxCommentsSpec.pre enc Tryz.prog Tryz.f9 [] false w args ∧ laidMetH Tryz.prog laid2 w) ∧ sizedMet enc Tryz.prog Tryz.f9 (OpenSpec.ofChange Rows.syntaxCommentsSpec) false w args)
      (Rows.syntaxCommentsSpec.post enc Tryz.prog Tryz.f9 false true false false) := by
  refine returnsInHanded_of_change_and (C := Tryz.checked) (X := fun w _ => laidMetH Tryz.prog laid2 w) (fun _ _ _ hh h => h.of_heap hh) Tryz.own started (by kernel_rfl) Tryz.func9
    (ChangeSpec.witness_shaped (enc := enc) (C := Tryz.checked) (os := os) (X := fun w _ => laidMetH Tryz.prog laid2 w) false (World.doorLaid Tryz.prog 233 os) #[.string ByteArray.empty, .string ByteArray.empty] 8 rfl (World.shaped_of_RefB (by kernel_rfl) (by kernel_rfl)) (by kernel_rfl) (by kernel_rfl) (by kernel_rfl) (door_met os _)) ?_
  intro W base args ds gs before hval0 hW hcnd hsz hL _
  have hval : ∀ (j : Nat) t v, Tryz.f9.params[j]? = some t → args[j]? = some v → Value.okWide Tryz.prog W .any base t v := hval0
  have hW' := hW
  obtain ⟨p, q, hA0, hV, rfl, hfz, hnd⟩ := hW
  have hA : DataW.TrodAll enc Tryz.prog W 0 (fun _ => true) true Tryz.f9.params.toList args.toList ds p := hA0
  rw [Tryz.params9] at hA hval
  obtain ⟨v0, vs0, d0, ds0, p0, q0, hargs, rfl, rfl, h0, r0⟩ := trodAll_cons hA
  obtain ⟨v1, vs1, d1, ds1, p1, q1, rfl, rfl, rfl, h1, r1⟩ := trodAll_cons r0
  obtain ⟨rfl, rfl, rfl⟩ := trodAll_nil r1
  obtain rfl : args = #[v0, v1] := by cases args; simp_all
  obtain ⟨rfl, rfl⟩ := trodVars_none hV
  obtain ⟨a0, rfl, rfl, rfl, w0⟩ := open_string Tryz.underlying9 (hval 0 9 v0 rfl rfl) h0
  obtain ⟨a1, rfl, rfl, rfl, w1⟩ := open_string Tryz.underlying9 (hval 1 9 v1 rfl rfl) h1
  clear hA0 hval0
  simp only [List.append_nil] at hW'
  refine (walk a0 a1 W (tabs_of_laid hL)).mono fun e W' ⟨he, hg⟩ => ?_
  subst he
  exact ⟨_, rfl, _, _, _, [], [], [], hW', trodAll_cons_mk (shut_bool Tryz.underlying4 _) trodAll_mk0, (trodAll_cons_mk (shut_string Tryz.underlying9 w0) (trodAll_cons_mk (shut_string Tryz.underlying9 w1) trodAll_mk0)), rfl, hg.frame _, fun h => by cases h⟩

theorem over : Rows.SyntaxCommentsSaid :=
  OpenClaim.holds_of_wide 9 Tryz.f9 rfl rfl rfl rfl rfl rfl rfl ⟨rfl, rfl, rfl, rfl, rfl⟩ rfl rfl rfl rfl rfl (by kernel_rfl) Tryz.func9 (by kernel_rfl)
    (of_decide_eq_true (by kernel_rfl)) (by unfold Func.isWrapper; first | (rw [if_pos (by decide +kernel)]; kernel_rfl) | (rw [if_neg (by decide +kernel)]; exact ⟨rfl, rfl⟩))
    (fun os started H enc _ => lifted os started H enc)

theorem proved : Rows.SyntaxCommentsCardSaid :=
  Claim7.holds_tied_plain_at .later [] [.data, .data, .data, .sentinel, .sentinel, .data, .data] true (true, "e16af3669a31a138b6f0a67cedbca0c9b2bdc8ebff04942fd3db04372b172399") true
    over (fun _ h => by cases h) (by kernel_rfl) (fun _ h => by cases h) syntaxComments_row_tie rfl ⟨rfl, rfl⟩ (by kernel_rfl) rfl
    (fun f fn hf hfn => by
      obtain rfl : f = 9 := Option.some.inj ((show Tryz.prog.funcNamed Rows.syntaxCommentsRow.func = some 9 by kernel_rfl).symm.trans hf) |>.symm
      obtain rfl : fn = Tryz.f9 := (Option.some.inj (Tryz.func9.symm.trans hfn)).symm
      exact ⟨by kernel_rfl, fun j t ht => by
        rw [Tryz.params9] at ht
        rcases j with _ | j
        · obtain rfl : t = 9 := by simpa using ht.symm
          exact (show Tryz.prog.wantsStandIn 9 = false by kernel_rfl)
        rcases j with _ | j
        · obtain rfl : t = 9 := by simpa using ht.symm
          exact (show Tryz.prog.wantsStandIn 9 = false by kernel_rfl)
        simp at ht⟩)
    (by kernel_rfl)
#print axioms proved
end Go.Proofs.YtccmodefjgjpeaaGreatDoor.syntaxComments
