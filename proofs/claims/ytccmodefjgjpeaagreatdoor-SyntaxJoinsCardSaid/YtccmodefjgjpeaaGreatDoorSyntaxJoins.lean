/-
  SyntaxJoins: for every two texts the statement answers true. No condition but that the listed variables lie as the program's text lays them (the tie).
-/
import Derived.Test.YtccmodefjgjpeaaGreatDoorRows
import Derived.Test.YtccmodefjgjpeaaGreatDoorCards
import Derived.Test.YtccmodefjgjpeaaGreatDoorTie
import Derived.WalkKit
import Derived.WalkSpells
import Derived.ProofKit
import Derived.OpenShut
import Derived.ShutString
import Derived.Lib.SmallJoins
import Derived.SevenTiedAt
import Derived.Test.YtccmodefjgjpeaaGreatDoorLaidS
import Derived.Test.YtccmodefjgjpeaaGreatDoorAwakeS
import Derived.Test.YtccmodefjgjpeaaGreatDoorPRes
import Derived.Test.YtccmodefjgjpeaaGreatDoorTwo
import Derived.Test.YtccmodefjgjpeaaGreatDoorCntM
import Derived.Test.YtccmodefjgjpeaaGreatDoorHiM
import Derived.Test.YtccmodefjgjpeaaGreatDoorCell
namespace Go.Proofs.YtccmodefjgjpeaaGreatDoor.syntaxJoins
open Go.ChangeShapes Go.WideShapes Go.ChangeAt Go.RowKit Go.Proofs.YtccmodefjgjpeaaGreatDoor Go.Joins
open Go.ChangeMaps (open_string shut_string)
set_option linter.unusedVariables false


set_option maxRecDepth 100000 in
set_option maxHeartbeats 8000000 in
/-- SyntaxJoins answers true, and leaves what there was. -/
theorem walk (a0 a1 : ByteArray) (w : World) (hT : Tabs w) :
    Calls Tryz.prog 6 #[.string a0, .string a1] w fun e w' => e = .returned (.bool true) ∧ Below w.heap.size w w' := by
  have HT := Lib.hid hT
  have h2 := hT.2.2
  clear hT
  by_cases hs : a0.size ≤ 500
  · have hd : decide ((500 : Int) < (a0.size : Int)) = false := decide_eq_false (by omega)
    by_cases hs1 : a1.size ≤ 500
    · have hd1 : decide ((500 : Int) < (a1.size : Int)) = false := decide_eq_false (by omega)
      have HF1 := Lib.hid (fun W hW => front_calls a0 (by omega) W hW)
      have HF2 := Lib.hid (fun W hW => front_calls a1 (by omega) W hW)
      have z1 : (a0 ++ (⟨#[10]⟩ : ByteArray)).size = a0.size + 1 := by rw [ByteArray.size_append]; rfl
      have z2 : (a0 ++ (⟨#[10]⟩ : ByteArray) ++ a1).size = a0.size + 1 + a1.size := by rw [ByteArray.size_append, z1]
      have v1 : (9223372036854775807 < a0.size + (⟨#[10]⟩ : ByteArray).size) = False := eq_false (by rw [show (⟨#[10]⟩ : ByteArray).size = 1 from rfl]; omega)
      have v1' : (9223372036854775807 < a0.size + 1) = False := eq_false (by omega)
      have v2 : (9223372036854775807 < (a0 ++ (⟨#[10]⟩ : ByteArray)).size + a1.size) = False := eq_false (by rw [z1]; omega)
      have v3 : (9223372036854775807 < a0.size + (⟨#[10]⟩ : ByteArray).size + a1.size) = False := eq_false (by rw [show (⟨#[10]⟩ : ByteArray).size = 1 from rfl]; omega)
      have v3' : (9223372036854775807 < a0.size + 1 + a1.size) = False := eq_false (by omega)
      have HF3 := Lib.hid (fun W hW => front_calls (a0 ++ (⟨#[10]⟩ : ByteArray) ++ a1) (by omega) W hW)
      have e2 : (a0 ++ (⟨#[10]⟩ : ByteArray) ++ a1).data.toList = a0.data.toList ++ 10 :: a1.data.toList := by
        rw [ByteArray.data_append, ByteArray.data_append, Array.toList_append, Array.toList_append, List.append_assoc]; rfl
      rw [e2] at HF3
      clear e2 z1 z2
      cases hr1 : parseT a0.data.toList with
      | bad p c =>
        have hc := (parseT_bad hr1).2
        have HR1 := Lib.hid hr1
        have hc0 : ((c : Int) == 0) = false := by rw [beq_eq_false_iff_ne]; omega
        clear hr1
        cases hr2 : parseT a1.data.toList with
        | bad p2 c2 =>
          have hc2 := (parseT_bad hr2).2
          have HR2 := Lib.hid hr2
          have hc20 : ((c2 : Int) == 0) = false := by rw [beq_eq_false_iff_ne]; omega
          clear hr2
          go_enter Tryz.func6, Tryz.ntmps6
          go_wp2_with fail
          refine (awake_calls _ HT.out).mono ?_
          rintro e w1 ⟨rfl, hB1⟩
          have HT1 := Lib.hid (HT.out.below hB1 h2)
          have HB1 := Lib.hid hB1
          clear hB1
          go_wp2_with fail
          refine (HF1.out _ HT1.out).mono ?_
          intro e w2 h3
          obtain ⟨hB2, rfl⟩ := h3.bad HR1.out
          have HB2 := Lib.hid (HB1.out.trans (hB2.mono HB1.out.size))
          clear hB2 h3
          unfold nilT
          have HB2' := Lib.hid (HB2.out.alloc HB2.out.size (.cells #[.slice none 0 0, .slice none 0 0, .slice none 0 0] 27))
          have HT2 := Lib.hid (HT.out.below HB2'.out h2)
          go_wp2_with fail
          refine (HF2.out _ HT2.out).mono ?_
          intro e w3 h4
          obtain ⟨hB3, rfl⟩ := h4.bad HR2.out
          have HB3 := Lib.hid (HB2'.out.trans (hB3.mono HB2'.out.size))
          clear hB3 h4
          unfold nilT
          go_wp2
          go_ret
          exact ⟨rfl, HB3.out.alloc HB3.out.size _⟩
        | good s2 =>
          have HR2 := Lib.hid hr2
          clear hr2
          go_enter Tryz.func6, Tryz.ntmps6
          go_wp2_with fail
          refine (awake_calls _ HT.out).mono ?_
          rintro e w1 ⟨rfl, hB1⟩
          have HT1 := Lib.hid (HT.out.below hB1 h2)
          have HB1 := Lib.hid hB1
          clear hB1
          go_wp2_with fail
          refine (HF1.out _ HT1.out).mono ?_
          intro e w2 h3
          obtain ⟨hB2, rfl⟩ := h3.bad HR1.out
          have HB2 := Lib.hid (HB1.out.trans (hB2.mono HB1.out.size))
          clear hB2 h3
          unfold nilT
          have HB2' := Lib.hid (HB2.out.alloc HB2.out.size (.cells #[.slice none 0 0, .slice none 0 0, .slice none 0 0] 27))
          have HT2 := Lib.hid (HT.out.below HB2'.out h2)
          go_wp2_with fail
          refine (HF2.out _ HT2.out).mono ?_
          intro e w3 h4
          obtain ⟨hB3, v2, rfl, ht2⟩ := h4.good HR2.out
          obtain ⟨B1, b1', B2, b2', B3, b3', rfl⟩ := ht2.form
          have HB3 := Lib.hid (HB2'.out.trans (hB3.mono HB2'.out.size))
          clear hB3 h4 ht2
          go_wp2
          go_ret
          exact ⟨rfl, HB3.out.alloc HB3.out.size _⟩
      | good s1 =>
        have HR1 := Lib.hid hr1
        cases hr2 : parseT a1.data.toList with
        | bad p2 c2 =>
          have hc2 := (parseT_bad hr2).2
          have HR2 := Lib.hid hr2
          have hc20 : ((c2 : Int) == 0) = false := by rw [beq_eq_false_iff_ne]; omega
          clear hr1 hr2
          go_enter Tryz.func6, Tryz.ntmps6
          go_wp2_with fail
          refine (awake_calls _ HT.out).mono ?_
          rintro e w1 ⟨rfl, hB1⟩
          have HT1 := Lib.hid (HT.out.below hB1 h2)
          have HB1 := Lib.hid hB1
          clear hB1
          go_wp2_with fail
          refine (HF1.out _ HT1.out).mono ?_
          intro e w2 h3
          obtain ⟨hB2, v1, rfl, ht1⟩ := h3.good HR1.out
          obtain ⟨A1, a1', A2, a2', A3, a3', rfl⟩ := ht1.form
          have HB2 := Lib.hid (HB1.out.trans (hB2.mono HB1.out.size))
          clear hB2 h3 ht1
          have HB2' := Lib.hid (HB2.out.alloc HB2.out.size (.cells #[.slice A1 s1.ex.length a1', .slice A2 s1.st.length a2', .slice A3 s1.fn.length a3'] 27))
          have HK2 := Lib.hid (heap_one w2 #[.slice A1 s1.ex.length a1', .slice A2 s1.st.length a2', .slice A3 s1.fn.length a3'] 27)
          have HT2 := Lib.hid (HT.out.below HB2'.out h2)
          go_wp2_with fail
          refine (HF2.out _ HT2.out).mono ?_
          intro e w3 h4
          obtain ⟨hB3, rfl⟩ := h4.bad HR2.out
          have HB3 := Lib.hid (HB2'.out.trans (hB3.mono HB2'.out.size))
          clear hB3 h4
          unfold nilT
          go_wp2
          go_ret
          exact ⟨rfl, HB3.out.alloc HB3.out.size _⟩
        | good s2 =>
          have HR2 := Lib.hid hr2
          have la0 : a0.data.toList.length = a0.size := sizeL _
          have la1 : a1.data.toList.length = a1.size := sizeL _
          have f1 := parse_few _ (by omega) hr1
          have f2 := parse_few _ (by omega) hr2
          have n1 := parse_cnt hr1
          have n2 := parse_cnt hr2
          have h3 := parse_two a0.data.toList a1.data.toList (by omega) (by omega) hr1 hr2
          have HSP := Lib.hid (parse_hi hr2)
          clear hr1 hr2
          by_cases h32 : s1.fn.length + s2.fn.length ≤ 32
          · obtain ⟨s, hr3, hfn, hst, hex, htw⟩ := h3.1 h32
            have HR3 := Lib.hid hr3
            have HTW := Lib.hid htw
            have dd : decide ((32 : Int) < (s1.fn.length : Int) + (s2.fn.length : Int)) = false := decide_eq_false (by omega)
            clear hr3 htw h3
            go_enter Tryz.func6, Tryz.ntmps6
            go_wp2_with fail
            refine (awake_calls _ HT.out).mono ?_
            rintro e w1 ⟨rfl, hB1⟩
            have HT1 := Lib.hid (HT.out.below hB1 h2)
            have HB1 := Lib.hid hB1
            clear hB1
            go_wp2_with fail
            refine (HF1.out _ HT1.out).mono ?_
            intro e w2 h3
            obtain ⟨hB2, v1, rfl, ht1⟩ := h3.good HR1.out
            obtain ⟨A1, a1', A2, a2', A3, a3', rfl⟩ := ht1.form
            have HB2 := Lib.hid (HB1.out.trans (hB2.mono HB1.out.size))
            clear hB2 h3 ht1
            have HB2' := Lib.hid (HB2.out.alloc HB2.out.size (.cells #[.slice A1 s1.ex.length a1', .slice A2 s1.st.length a2', .slice A3 s1.fn.length a3'] 27))
            have HK2 := Lib.hid (heap_one w2 #[.slice A1 s1.ex.length a1', .slice A2 s1.st.length a2', .slice A3 s1.fn.length a3'] 27)
            have HT2 := Lib.hid (HT.out.below HB2'.out h2)
            go_wp2_with fail
            refine (HF2.out _ HT2.out).mono ?_
            intro e w3 h4
            obtain ⟨hB3, v2, rfl, ht2⟩ := h4.good HR2.out
            obtain ⟨B1, b1', B2, b2', B3, b3', rfl⟩ := ht2.form
            have HB3 := Lib.hid (HB2'.out.trans (hB3.mono HB2'.out.size))
            have hs2 : (w2.alloc (.cells #[.slice A1 s1.ex.length a1', .slice A2 s1.st.length a2', .slice A3 s1.fn.length a3'] 27)).heap.size = w2.heap.size + 1 := by simp
            have k2 := (hB3.block w2.heap.size (by rw [hs2]; omega)).trans HK2.out
            have hl3 := blk_lt k2
            have HU := Lib.hid ht2
            have HK3 := Lib.hid (heap_one w3 #[.slice B1 s2.ex.length b1', .slice B2 s2.st.length b2', .slice B3 s2.fn.length b3'] 27)
            have HK2' := Lib.hid ((Below.heap_alloc w3 (.cells #[.slice B1 s2.ex.length b1', .slice B2 s2.st.length b2', .slice B3 s2.fn.length b3'] 27) _ hl3).trans k2)
            have HL3 := Lib.hid hl3
            have HB3' := Lib.hid (HB3.out.alloc HB3.out.size (.cells #[.slice B1 s2.ex.length b1', .slice B2 s2.st.length b2', .slice B3 s2.fn.length b3'] 27))
            have HA3 := Lib.hid ((Below.refl w3.heap.size w3).alloc (Nat.le_refl _) (.cells #[.slice B1 s2.ex.length b1', .slice B2 s2.st.length b2', .slice B3 s2.fn.length b3'] 27))
            have HT3 := Lib.hid (HT.out.below HB3'.out h2)
            clear hB3 h4 ht2 k2 hl3 hs2
            go_wp2_with fail
            refine (HF3.out _ HT3.out).mono ?_
            intro e w4 h5
            obtain ⟨hB4, v3, rfl, ht3⟩ := h5.good HR3.out
            obtain ⟨C1, c1', C2, c2', C3, c3', rfl⟩ := ht3.form
            rw [hfn, hst, hex]
            have hs3 : (w3.alloc (.cells #[.slice B1 s2.ex.length b1', .slice B2 s2.st.length b2', .slice B3 s2.fn.length b3'] 27)).heap.size = w3.heap.size + 1 := by simp
            have hl3 := HL3.out
            have k2 := (hB4.block w2.heap.size (by rw [hs3]; omega)).trans HK2'.out
            have k3 := (hB4.block w3.heap.size (by rw [hs3]; omega)).trans HK3.out
            have l2 := blk_lt k2
            have l3 := blk_lt k3
            have hz : ∀ k o, k < w4.heap.size → (w4.alloc (.cells #[.slice C1 (s1.ex.length + s2.ex.length) c1', .slice C2 (s1.st.length + s2.st.length) c2', .slice C3 (s1.fn.length + s2.fn.length) c3'] 27)).cell? ⟨k, o, none⟩ = w4.cell? ⟨k, o, none⟩ := fun k o hk => World.cell?_of_block (a := ⟨k, o, none⟩) (Below.heap_alloc w4 _ k hk)
            have p0 := (cellK k2 0).trans rfl
            have u0 := (cellK k3 0).trans rfl
            have p0' := (hz _ 0 l2).trans p0
            have u0' := (hz _ 0 l3).trans u0
            have p1 := (cellK k2 1).trans rfl
            have u1 := (cellK k3 1).trans rfl
            have p1' := (hz _ 1 l2).trans p1
            have u1' := (hz _ 1 l3).trans u1
            have p2 := (cellK k2 2).trans rfl
            have u2 := (cellK k3 2).trans rfl
            have p2' := (hz _ 2 l2).trans p2
            have u2' := (hz _ 2 l3).trans u2
            have HB4 := Lib.hid (HB3'.out.trans (hB4.mono HB3'.out.size))
            have HU4 := Lib.hid ((HU.out.below HA3.out).below hB4)
            have HV4 := Lib.hid ht3
            have K2 := Lib.hid k2
            have K3 := Lib.hid k3
            have K4 := Lib.hid (heap_one w4 #[.slice C1 (s1.ex.length + s2.ex.length) c1', .slice C2 (s1.st.length + s2.st.length) c2', .slice C3 (s1.fn.length + s2.fn.length) c3'] 27)
            have HA4 := Lib.hid ((Below.refl w4.heap.size w4).alloc (Nat.le_refl _) (.cells #[.slice C1 (s1.ex.length + s2.ex.length) c1', .slice C2 (s1.st.length + s2.st.length) c2', .slice C3 (s1.fn.length + s2.fn.length) c3'] 27))
            clear hB4 h5 hz ht3 k2 k3
            go_wp2
            go_loopw [111] (fun a wr => ∃ i : Nat, i ≤ s2.st.length ∧ a = .int .i64 i ∧ Below (w4.heap.size + 1) (w4.alloc (.cells #[.slice C1 (s1.ex.length + s2.ex.length) c1', .slice C2 (s1.st.length + s2.st.length) c2', .slice C3 (s1.fn.length + s2.fn.length) c3'] 27)) wr) (fun a _ => s2.st.length - (intOf a).toNat)
            case atStart => exact ⟨0, Nat.zero_le _, rfl, Below.refl _ _⟩
            case round =>
              obtain ⟨i, hi, rfl, hR⟩ := hrel
              have hs4 : (w4.alloc (.cells #[.slice C1 (s1.ex.length + s2.ex.length) c1', .slice C2 (s1.st.length + s2.st.length) c2', .slice C3 (s1.fn.length + s2.fn.length) c3'] 27)).heap.size = w4.heap.size + 1 := by simp
              have HRW := Lib.hid hR
              have hBr : Below w4.heap.size w4 wr := HA4.out.trans (hR.mono (by omega))
              have k2 := (hBr.block _ l2).trans K2.out
              have k3 := (hBr.block _ l3).trans K3.out
              have k4 := (hR.block w4.heap.size (by omega)).trans K4.out
              have p1r := (cellK k2 1).trans rfl
              have u1r := (cellK k3 1).trans rfl
              have t1r := (cellK k4 1).trans rfl
              have m2 := blk_lt k2
              have m3 := blk_lt k3
              have m4 := blk_lt k4
              by_cases hlt : i < s2.st.length
              · have hli : s1.st.length + i < s.st.length := by rw [hst]; omega
                obtain ⟨g, l, m, rfl, hg, hl, hm, x0, x1, x2, x3, x4, x5, x6, x7, x8⟩ := (HU4.out.below hBr).smC i hlt
                obtain ⟨g2, l2', m2', rfl, hg2, hl2', hm2', y0, y1, y2, y3, y4, y5, y6, y7, y8⟩ := (HV4.out.below hBr).smC (s1.st.length + i) hli
                obtain ⟨t1, t2, t3⟩ := HTW.out i hlt hli
                rw [t1] at y0
                rw [t2] at y1
                rw [t3] at y2
                obtain ⟨Al, cl, rfl⟩ := hl.form
                obtain ⟨Am, cm, rfl⟩ := hm.form
                obtain ⟨Al', cl', rfl⟩ := hl2'.form
                obtain ⟨Am', cm', rfl⟩ := hm2'.form
                clear hl hm hl2' hm2' t1 t2 t3 hR hBr k2 k3 k4
                have hsp := HSP.out i hlt
                generalize s.st[s1.st.length + i] = y at *
                generalize s2.st[i] = x at *
                have hi0 : (0 : Int) ≤ (i : Int) := by omega
                have hi1 : (i : Int) < (s2.st.length : Int) := by omega
                have hi2 : (0 : Int) ≤ (s1.st.length : Int) + (i : Int) := by omega
                have hi3 : (s1.st.length : Int) + (i : Int) < ((s1.st.length + s2.st.length : Nat) : Int) := by omega
                go_wp2
                go_roundw
                case rel => exact ⟨i + 1, by omega, by go_num, HRW.out.trans ((below_two wr _ _).mono (by have := HRW.out.size; omega))⟩
                case measure => simp [intOf]; omega
              · obtain rfl : i = s2.st.length := by omega
                go_wp2
                go_ret
                exact ⟨rfl, (HB4.out.alloc HB4.out.size _).trans (HRW.out.mono (by have := HB4.out.size; omega))⟩
          · obtain ⟨p3, hr3⟩ := h3.2 (by omega)
            have HR3 := Lib.hid hr3
            have dd : decide ((32 : Int) < (s1.fn.length : Int) + (s2.fn.length : Int)) = true := decide_eq_true (by omega)
            clear hr3 h3
            go_enter Tryz.func6, Tryz.ntmps6
            go_wp2_with fail
            refine (awake_calls _ HT.out).mono ?_
            rintro e w1 ⟨rfl, hB1⟩
            have HT1 := Lib.hid (HT.out.below hB1 h2)
            have HB1 := Lib.hid hB1
            clear hB1
            go_wp2_with fail
            refine (HF1.out _ HT1.out).mono ?_
            intro e w2 h3
            obtain ⟨hB2, v1, rfl, ht1⟩ := h3.good HR1.out
            obtain ⟨A1, a1', A2, a2', A3, a3', rfl⟩ := ht1.form
            have HB2 := Lib.hid (HB1.out.trans (hB2.mono HB1.out.size))
            clear hB2 h3 ht1
            have HB2' := Lib.hid (HB2.out.alloc HB2.out.size (.cells #[.slice A1 s1.ex.length a1', .slice A2 s1.st.length a2', .slice A3 s1.fn.length a3'] 27))
            have HK2 := Lib.hid (heap_one w2 #[.slice A1 s1.ex.length a1', .slice A2 s1.st.length a2', .slice A3 s1.fn.length a3'] 27)
            have HT2 := Lib.hid (HT.out.below HB2'.out h2)
            go_wp2_with fail
            refine (HF2.out _ HT2.out).mono ?_
            intro e w3 h4
            obtain ⟨hB3, v2, rfl, ht2⟩ := h4.good HR2.out
            obtain ⟨B1, b1', B2, b2', B3, b3', rfl⟩ := ht2.form
            have HB3 := Lib.hid (HB2'.out.trans (hB3.mono HB2'.out.size))
            have hs2 : (w2.alloc (.cells #[.slice A1 s1.ex.length a1', .slice A2 s1.st.length a2', .slice A3 s1.fn.length a3'] 27)).heap.size = w2.heap.size + 1 := by simp
            have k2 := (hB3.block w2.heap.size (by rw [hs2]; omega)).trans HK2.out
            have hl3 := blk_lt k2
            have HU := Lib.hid ht2
            have HK3 := Lib.hid (heap_one w3 #[.slice B1 s2.ex.length b1', .slice B2 s2.st.length b2', .slice B3 s2.fn.length b3'] 27)
            have HK2' := Lib.hid ((Below.heap_alloc w3 (.cells #[.slice B1 s2.ex.length b1', .slice B2 s2.st.length b2', .slice B3 s2.fn.length b3'] 27) _ hl3).trans k2)
            have HL3 := Lib.hid hl3
            have HB3' := Lib.hid (HB3.out.alloc HB3.out.size (.cells #[.slice B1 s2.ex.length b1', .slice B2 s2.st.length b2', .slice B3 s2.fn.length b3'] 27))
            have HA3 := Lib.hid ((Below.refl w3.heap.size w3).alloc (Nat.le_refl _) (.cells #[.slice B1 s2.ex.length b1', .slice B2 s2.st.length b2', .slice B3 s2.fn.length b3'] 27))
            have HT3 := Lib.hid (HT.out.below HB3'.out h2)
            clear hB3 h4 ht2 k2 hl3 hs2
            go_wp2_with fail
            refine (HF3.out _ HT3.out).mono ?_
            intro e w4 h5
            obtain ⟨hB4, rfl⟩ := h5.bad HR3.out
            unfold nilT
            have hs3 : (w3.alloc (.cells #[.slice B1 s2.ex.length b1', .slice B2 s2.st.length b2', .slice B3 s2.fn.length b3'] 27)).heap.size = w3.heap.size + 1 := by simp
            have hl3 := HL3.out
            have k2 := (hB4.block w2.heap.size (by rw [hs3]; omega)).trans HK2'.out
            have k3 := (hB4.block w3.heap.size (by rw [hs3]; omega)).trans HK3.out
            have l2 := blk_lt k2
            have l3 := blk_lt k3
            have hz : ∀ k o, k < w4.heap.size → (w4.alloc (.cells #[.slice none 0 0, .slice none 0 0, .slice none 0 0] 27)).cell? ⟨k, o, none⟩ = w4.cell? ⟨k, o, none⟩ := fun k o hk => World.cell?_of_block (a := ⟨k, o, none⟩) (Below.heap_alloc w4 _ k hk)
            have p0 := (cellK k2 0).trans rfl
            have u0 := (cellK k3 0).trans rfl
            have p0' := (hz _ 0 l2).trans p0
            have u0' := (hz _ 0 l3).trans u0
            have p1 := (cellK k2 1).trans rfl
            have u1 := (cellK k3 1).trans rfl
            have p1' := (hz _ 1 l2).trans p1
            have u1' := (hz _ 1 l3).trans u1
            have p2 := (cellK k2 2).trans rfl
            have u2 := (cellK k3 2).trans rfl
            have p2' := (hz _ 2 l2).trans p2
            have u2' := (hz _ 2 l3).trans u2
            have HB4 := Lib.hid (HB3'.out.trans (hB4.mono HB3'.out.size))
            clear hB4 h5 hz
            go_wp2
            go_ret
            exact ⟨rfl, HB4.out.alloc HB4.out.size _⟩
    · have hd1 : decide ((500 : Int) < (a1.size : Int)) = true := decide_eq_true (by omega)
      go_enter Tryz.func6, Tryz.ntmps6
      go_wp2_with fail
      refine (awake_calls _ HT.out).mono ?_
      rintro e w1 ⟨rfl, hB1⟩
      have HT1 := Lib.hid (HT.out.below hB1 h2)
      have HB1 := Lib.hid hB1
      clear hB1
      go_wp2_with fail
      refine (awake_calls _ HT1.out).mono ?_
      rintro e w2 ⟨rfl, hB2⟩
      go_wp2
      go_ret
      exact ⟨rfl, HB1.out.trans (hB2.mono HB1.out.size)⟩
  · have hd : decide ((500 : Int) < (a0.size : Int)) = true := decide_eq_true (by omega)
    go_enter Tryz.func6, Tryz.ntmps6
    go_wp2_with fail
    refine (awake_calls _ HT.out).mono ?_
    rintro e w1 ⟨rfl, hB1⟩
    have HT1 := Lib.hid (HT.out.below hB1 h2)
    have HB1 := Lib.hid hB1
    clear hB1
    go_wp2_with fail
    refine (awake_calls _ HT1.out).mono ?_
    rintro e w2 ⟨rfl, hB2⟩
    go_wp2
    go_ret
    exact ⟨rfl, HB1.out.trans (hB2.mono HB1.out.size)⟩


set_option maxRecDepth 100000 in
theorem lifted (os : Os) (started : os.Started) (H : Type) (enc : TypeId × Value → H) :
    ReturnsInHanded {} Tryz.checked os 6 .any (fun w args => (Rows.syntaxJoinsSpec.pre enc Tryz.prog Tryz.f6 [] false w args ∧ laidMetH Tryz.prog laid2 w) ∧ sizedMet enc Tryz.prog Tryz.f6 (OpenSpec.ofChange Rows.syntaxJoinsSpec) false w args)
      (Rows.syntaxJoinsSpec.post enc Tryz.prog Tryz.f6 false true false false) := by
  refine returnsInHanded_of_change_and (C := Tryz.checked) (X := fun w _ => laidMetH Tryz.prog laid2 w) (fun _ _ _ hh h => h.of_heap hh) Tryz.own started (by kernel_rfl) Tryz.func6
    (ChangeSpec.witness_shaped (enc := enc) (C := Tryz.checked) (os := os) (X := fun w _ => laidMetH Tryz.prog laid2 w) false (World.doorLaid Tryz.prog 233 os) #[.string ByteArray.empty, .string ByteArray.empty] 8 rfl (World.shaped_of_RefB (by kernel_rfl) (by kernel_rfl)) (by kernel_rfl) (by kernel_rfl) (by kernel_rfl) (door_met os _)) ?_
  intro W base args ds gs before hval0 hW hcnd hsz hL _
  have hval : ∀ (j : Nat) t v, Tryz.f6.params[j]? = some t → args[j]? = some v → Value.okWide Tryz.prog W .any base t v := hval0
  have hW' := hW
  obtain ⟨p, q, hA0, hV, rfl, hfz, hnd⟩ := hW
  have hA : DataW.TrodAll enc Tryz.prog W 0 (fun _ => true) true Tryz.f6.params.toList args.toList ds p := hA0
  rw [Tryz.params6] at hA hval
  obtain ⟨v0, vs0, d0, ds0, p0, q0, hargs, rfl, rfl, h0, r0⟩ := trodAll_cons hA
  obtain ⟨v1, vs1, d1, ds1, p1, q1, rfl, rfl, rfl, h1, r1⟩ := trodAll_cons r0
  obtain ⟨rfl, rfl, rfl⟩ := trodAll_nil r1
  obtain rfl : args = #[v0, v1] := by cases args; simp_all
  obtain ⟨rfl, rfl⟩ := trodVars_none hV
  obtain ⟨a0, rfl, rfl, rfl, w0⟩ := open_string Tryz.underlying9 (hval 0 9 v0 rfl rfl) h0
  obtain ⟨a1, rfl, rfl, rfl, w1⟩ := open_string Tryz.underlying9 (hval 1 9 v1 rfl rfl) h1
  clear hA0 hval0
  simp only [List.append_nil] at hW'
  refine (walk a0 a1 W (tabs_of_laid hL)).mono fun e W' ⟨he, hg⟩ => ?_
  subst he
  exact ⟨_, rfl, _, _, _, [], [], [], hW', trodAll_cons_mk (shut_bool Tryz.underlying4 _) trodAll_mk0, (trodAll_cons_mk (shut_string Tryz.underlying9 w0) (trodAll_cons_mk (shut_string Tryz.underlying9 w1) trodAll_mk0)), rfl, hg.frame _, fun h => by cases h⟩

theorem over : Rows.SyntaxJoinsSaid :=
  OpenClaim.holds_of_wide 6 Tryz.f6 rfl rfl rfl rfl rfl rfl rfl ⟨rfl, rfl, rfl, rfl, rfl⟩ rfl rfl rfl rfl rfl (by kernel_rfl) Tryz.func6 (by kernel_rfl)
    (of_decide_eq_true (by kernel_rfl)) (by unfold Func.isWrapper; first | (rw [if_pos (by decide +kernel)]; kernel_rfl) | (rw [if_neg (by decide +kernel)]; exact ⟨rfl, rfl⟩))
    (fun os started H enc _ => lifted os started H enc)

theorem proved : Rows.SyntaxJoinsCardSaid :=
  Claim7.holds_tied_plain_at .later [] [.data, .data, .data, .sentinel, .sentinel, .data, .data] true (true, "e16af3669a31a138b6f0a67cedbca0c9b2bdc8ebff04942fd3db04372b172399") true
    over (fun _ h => by cases h) (by kernel_rfl) (fun _ h => by cases h) syntaxJoins_row_tie rfl ⟨rfl, rfl⟩ (by kernel_rfl) rfl
    (fun f fn hf hfn => by
      obtain rfl : f = 6 := Option.some.inj ((show Tryz.prog.funcNamed Rows.syntaxJoinsRow.func = some 6 by kernel_rfl).symm.trans hf) |>.symm
      obtain rfl : fn = Tryz.f6 := (Option.some.inj (Tryz.func6.symm.trans hfn)).symm
      exact ⟨by kernel_rfl, fun j t ht => by
        rw [Tryz.params6] at ht
        rcases j with _ | j
        · obtain rfl : t = 9 := by simpa using ht.symm
          exact (show Tryz.prog.wantsStandIn 9 = false by kernel_rfl)
        rcases j with _ | j
        · obtain rfl : t = 9 := by simpa using ht.symm
          exact (show Tryz.prog.wantsStandIn 9 = false by kernel_rfl)
        simp at ht⟩)
    (by kernel_rfl)
#print axioms proved
end Go.Proofs.YtccmodefjgjpeaaGreatDoor.syntaxJoins
