/-
  SyntaxSpans: for every text the statement answers true. No condition but that the listed variables lie as the program's text lays them (the tie).
-/
import Derived.Test.YtccmodefjgjpeaaGreatDoorRows
import Derived.Test.YtccmodefjgjpeaaGreatDoorCards
import Derived.Test.YtccmodefjgjpeaaGreatDoorTie
import Derived.WalkKit
import Derived.WalkSpells
import Derived.ProofKit
import Derived.OpenShut
import Derived.ShutString
import Derived.Lib.SmallJoins
import Derived.SevenTiedAt
import Derived.BigRegion
import Derived.RegionTactic
import Derived.BigQuiet
import Derived.Deep.RegionHeld3
import Derived.Deep.OwnRows
import Derived.Test.YtccmodefjgjpeaaGreatDoorLaidS
import Derived.Test.YtccmodefjgjpeaaGreatDoorAwakeS
import Derived.Test.YtccmodefjgjpeaaGreatDoorPRes
import Derived.Test.YtccmodefjgjpeaaGreatDoorTwo
import Derived.Test.YtccmodefjgjpeaaGreatDoorLenM
import Derived.Test.YtccmodefjgjpeaaGreatDoorCntM
import Derived.Test.YtccmodefjgjpeaaGreatDoorParts
namespace Go.Proofs.YtccmodefjgjpeaaGreatDoor.syntaxSpans
open Go.ChangeShapes Go.WideShapes Go.ChangeAt Go.RowKit Go.Proofs.YtccmodefjgjpeaaGreatDoor Go.Joins
open Go.ChangeMaps (open_string shut_string)
set_option linter.unusedVariables false


set_option maxRecDepth 100000 in
set_option maxHeartbeats 20000000 in
/-- SyntaxSpans answers true, and leaves what there was. -/
theorem walk (a0 : ByteArray) (w : World) (hT : Tabs w) :
    Calls Tryz.prog 3 #[.string a0] w fun e w' => e = .returned (.bool true) ∧ Below w.heap.size w w' := by
  have HT := Lib.hid hT
  have h2 := hT.2.2
  clear hT
  by_cases hs : a0.size ≤ 600
  · have hd : decide ((600 : Int) < (a0.size : Int)) = false := decide_eq_false (by omega)
    have HF1 := Lib.hid (fun W hW => front_calls a0 (by omega) W hW)
    cases hres : parseT a0.data.toList with
    | bad p c =>
      have hc := (parseT_bad hres).2
      have HR := Lib.hid hres
      have hc0 : ((c : Int) == 0) = false := by rw [beq_eq_false_iff_ne]; omega
      clear hres
      go_enter Tryz.func3, Tryz.ntmps3
      go_wp2_with fail
      refine (awake_calls _ HT.out).mono ?_
      rintro e w1 ⟨rfl, hB1⟩
      have HT1 := Lib.hid (HT.out.below hB1 h2)
      have HB1 := Lib.hid hB1
      clear hB1
      go_wp2_with fail
      refine (HF1.out _ HT1.out).mono ?_
      intro e w2 h3
      obtain ⟨hB2, rfl⟩ := h3.bad HR.out
      have HB2 := Lib.hid (HB1.out.trans (hB2.mono HB1.out.size))
      clear hB2 h3
      unfold nilT
      go_wp2
      go_ret
      exact ⟨rfl, HB2.out.alloc HB2.out.size _⟩
    | good s =>
      have hl : a0.data.toList.length = a0.size := sizeL _
      have hfew := (parse_few a0.data.toList (by omega) hres).1
      have hcnt := parse_cnt hres
      have HLEN := Lib.hid (parse_len hres)
      have HSP := Lib.hid (parse_span hres)
      have HR := Lib.hid hres
      clear hres
      go_enter Tryz.func3, Tryz.ntmps3
      go_wp2_with fail
      refine (awake_calls _ HT.out).mono ?_
      rintro e w1 ⟨rfl, hB1⟩
      have HT1 := Lib.hid (HT.out.below hB1 h2)
      have HB1 := Lib.hid hB1
      clear hB1
      go_wp2_with fail
      refine (HF1.out _ HT1.out).mono ?_
      intro e w2 h3
      obtain ⟨hB2, v, rfl, ht⟩ := h3.good HR.out
      obtain ⟨A1, c1, A2, c2, A3, c3, rfl⟩ := ht.form
      have HB2 := Lib.hid (HB1.out.trans (hB2.mono HB1.out.size))
      have HV := Lib.hid ht
      have HA2 := Lib.hid ((Below.refl w2.heap.size w2).alloc (Nat.le_refl _) (.cells #[.slice A1 s.ex.length c1, .slice A2 s.st.length c2, .slice A3 s.fn.length c3] 27))
      have K2 := Lib.hid (heap_one w2 #[.slice A1 s.ex.length c1, .slice A2 s.st.length c2, .slice A3 s.fn.length c3] 27)
      clear hB2 h3 ht HR
      go_wp2
      go_loopw [47] (fun a wr => ∃ i : Nat, i ≤ s.ex.length ∧ a = .int .i64 i ∧ Below (w2.heap.size + 1) (w2.alloc (.cells #[.slice A1 s.ex.length c1, .slice A2 s.st.length c2, .slice A3 s.fn.length c3] 27)) wr) (fun a _ => s.ex.length - (intOf a).toNat)
      case atStart => exact ⟨0, Nat.zero_le _, rfl, Below.refl _ _⟩
      case round =>
        obtain ⟨i, hi, rfl, hR⟩ := hrel
        obtain ⟨wo, rfl⟩ : ∃ wo, wo = wr := ⟨wr, rfl⟩
        have hs2 : (w2.alloc (.cells #[.slice A1 s.ex.length c1, .slice A2 s.st.length c2, .slice A3 s.fn.length c3] 27)).heap.size = w2.heap.size + 1 := by simp
        have hBr : Below w2.heap.size w2 wo := HA2.out.trans (hR.mono (by omega))
        have hwr : w2.heap.size < wo.heap.size := by have := hR.size; omega
        have k2 := (hR.block w2.heap.size (by omega)).trans K2.out
        by_cases hlt : i < s.ex.length
        · obtain ⟨g, l, rfl, hg, hl, x0, x1, x2, x3, x4, x5, x6, x7, x8⟩ := (HV.out.below hBr).exC i hlt
          obtain ⟨Al, cl, rfl⟩ := hl.form
          rw [intsV_len] at *
          have HCH := Lib.hid (HSP.out.ex i _ (List.getElem?_eq_getElem hlt))
          have hpl := partsL_len (HLEN.out.ex _ (List.getElem_mem hlt)) (by omega)
          have q0 := (cellK k2 0).trans rfl
          generalize s.ex[i] = x at *
          have hi0 : (0 : Int) ≤ (i : Int) := by omega
          have hi1 : (i : Int) < (s.ex.length : Int) := by omega
          have HX := Lib.hid (heap_one wo #[.int .i64 (x.kind : Int), .int .i64 (x.lo : Int), .int .i64 (x.hi : Int), .int .i64 (x.num : Int), .string (bs x.name), .string (bs x.op), .int .i64 (x.a : Int), .int .i64 (x.b : Int), .slice Al x.list.length cl] 35)
          have HAX := Lib.hid ((Below.refl wo.heap.size wo).alloc (Nat.le_refl _) (.cells #[.int .i64 (x.kind : Int), .int .i64 (x.lo : Int), .int .i64 (x.hi : Int), .int .i64 (x.num : Int), .string (bs x.name), .string (bs x.op), .int .i64 (x.a : Int), .int .i64 (x.b : Int), .slice Al x.list.length cl] 35))
          have HL := Lib.hid (hl.belowL HAX.out).any
          have HR := Lib.hid hR
          have HBR := Lib.hid hBr
          have HK := Lib.hid k2
          clear hl hR hBr k2
          go_wp2_with fail
          refine (parts_calls _ x Al x.list.length cl _ HL.out).mono ?_
          rintro e w5 ⟨v, rfl, hv, hB5⟩
          obtain ⟨Av, cv, rfl⟩ := hv.form
          rw [intsV_len] at *
          have hsx : (wo.alloc (.cells #[.int .i64 (x.kind : Int), .int .i64 (x.lo : Int), .int .i64 (x.hi : Int), .int .i64 (x.num : Int), .string (bs x.name), .string (bs x.op), .int .i64 (x.a : Int), .int .i64 (x.b : Int), .slice Al x.list.length cl] 35)).heap.size = wo.heap.size + 1 := by simp
          have KX5 := Lib.hid ((hB5.block wo.heap.size (by rw [hsx]; omega)).trans HX.out)
          have HB5 := Lib.hid (HAX.out.trans (hB5.mono (by rw [hsx]; omega)))
          have HPV := Lib.hid hv
          clear hv hB5 x0 x1 x2 x3 x4 x5 x6 x7 x8 hsx
          go_wp2
          go_loopw [8, 58] (fun c b wr => ∃ k last : Nat, k ≤ (partsL x).length ∧ b = .int .i64 k ∧ c = .int .i64 last ∧ x.lo ≤ last ∧ Chain (s.ex.take i) last ((partsL x).drop k) x.hi ∧ Below w5.heap.size w5 wr) (fun _ b _ => (partsL x).length - (intOf b).toNat)
          case atStart => exact ⟨0, x.lo, Nat.zero_le _, rfl, rfl, Nat.le_refl _, HCH.out, Below.refl _ _⟩
          case round =>
            obtain ⟨k, last, hk, rfl, rfl, hlo, hch, hB6⟩ := hrel
            have hB6r : Below wo.heap.size wo wr := HB5.out.trans (hB6.mono HB5.out.size)
            by_cases hlk : k < (partsL x).length
            · obtain ⟨y, hy, y1, y2, y3, hch2⟩ := hch.step hlk
              obtain ⟨hpi, hpn, hpy⟩ := take_get hy
              obtain ⟨gv, rfl, hgv, pv⟩ := (HPV.out.belowL hB6).int k hlk
              obtain ⟨hg6, e1, e2⟩ := ((HV.out.below HBR.out).below hB6r).exP _ hpn
              rw [hpy] at e1 e2
              have kx := (hB6.block wo.heap.size (blk_lt KX5.out)).trans KX5.out
              have kt := (hB6r.block w2.heap.size hwr).trans HK.out
              have lx := blk_lt kx
              have lt := blk_lt kt
              have t0 := (cellK kt 0).trans rfl
              have z1 := (cellK kx 1).trans rfl
              have z2 := (cellK kx 2).trans rfl
              generalize (partsL x)[k] = p at *
              have hk0 : (0 : Int) ≤ (k : Int) := by omega
              have hk1 : (k : Int) < ((partsL x).length : Int) := by omega
              have hp0 : (0 : Int) ≤ (p : Int) := by omega
              have hp1 : (p : Int) < (s.ex.length : Int) := by omega
              have dp0 : decide ((p : Int) < 0) = false := decide_eq_false (by omega)
              have dp1 : decide ((i : Int) ≤ (p : Int)) = false := decide_eq_false (by omega)
              have dp2 : decide ((y.lo : Int) < (last : Int)) = false := decide_eq_false (by omega)
              have dp1' : decide (i ≤ p) = false := decide_eq_false (by omega)
              have dp2' : decide (y.lo < last) = false := decide_eq_false (by omega)
              have HC2 := Lib.hid hch2
              have HB6 := Lib.hid hB6
              have hw1 : x.lo ≤ y.lo := by omega
              have hw2 : x.lo ≤ y.hi := by omega
              clear hch hch2 hB6 hB6r kx kt hy hpy
              go_wp2_with fail
              go_region_held3 (fun w' => w'.cell? ⟨w2.heap.size, 0, none⟩ = some (.slice (some ⟨g, 0, none⟩) s.ex.length c1) ∧ w'.cell? ⟨g, p * 9 + 1, none⟩ = some (.int .i64 (y.lo : Int)) ∧ w'.cell? ⟨g, p * 9 + 2, none⟩ = some (.int .i64 (y.hi : Int)) ∧ w'.cell? ⟨wo.heap.size, 1, none⟩ = some (.int .i64 (x.lo : Int)) ∧ w'.cell? ⟨wo.heap.size, 2, none⟩ = some (.int .i64 (x.hi : Int)))
                (first | exact ⟨t0, e1, e2, z1, z2⟩ | exact ⟨f0, f1, f2, f3, f4⟩)
                (first | (go_at_call 17; refine (within_calls y.lo y.hi x.lo x.hi hw1 y3 _).mono ?_; rintro e w7 ⟨rfl, hB7⟩; have HB7 := Lib.hid (((Below.refl _ wr).drew).trans hB7); have f0 := (HB7.out.cell (p := ⟨w2.heap.size, 0, none⟩) lt).trans t0; have f1 := (HB7.out.cell (p := ⟨g, p * 9 + 1, none⟩) hg6).trans e1; have f2 := (HB7.out.cell (p := ⟨g, p * 9 + 2, none⟩) hg6).trans e2; have f3 := (HB7.out.cell (p := ⟨wo.heap.size, 1, none⟩) lx).trans z1; have f4 := (HB7.out.cell (p := ⟨wo.heap.size, 2, none⟩) lx).trans z2; clear hB7))
              all_goals
                go_wp2
                go_roundw
                case rel => exact ⟨k + 1, y.hi, by omega, by go_num, rfl, hw2, HC2.out, HB6.out.trans (HB7.out.mono HB6.out.size)⟩
                case measure => simp [intOf]; omega
            · obtain rfl : k = (partsL x).length := by omega
              have HB6r := Lib.hid hB6r
              clear hch hB6 hB6r
              go_wp2
              go_roundw
              case rel => exact ⟨i + 1, by omega, by go_num, HR.out.trans (HB6r.out.mono (by have := HR.out.size; omega))⟩
              case measure => simp [intOf]; omega
        · obtain rfl : i = s.ex.length := by omega
          have HR := Lib.hid hR
          have HBR := Lib.hid hBr
          have K20 := Lib.hid k2
          have hz1 : ∀ o, (wo.alloc (.cells (cntV s.st.length []) 3)).cell? ⟨w2.heap.size, o, none⟩ = wo.cell? ⟨w2.heap.size, o, none⟩ := fun o => World.cell?_of_block (a := ⟨_, o, none⟩) (Below.heap_alloc wo _ _ hwr)
          have q1 := (cellK k2 1).trans rfl
          have q1' := (hz1 1).trans q1
          have hmk : Sem.run Tryz.prog (Instr.makeSlice 33 (.int .i64 (s.st.length : Int)) (.int .i64 (s.st.length : Int))) wo = .ok (.slice (some ⟨wo.heap.size, 0, none⟩) s.st.length s.st.length) (wo.alloc (.cells (cntV s.st.length []) 3)) := by
            rw [← cntV_nil]
            exact run_make_row' _ _ _ _ Tryz.underlying33 Tryz.infoInt rfl _ _ _ (by omega) (by omega) _
          clear hR hBr k2 hz1 hlt hi
          go_wp2
          go_loopw [108] (fun a wr => ∃ i : Nat, i ≤ s.st.length ∧ a = .int .i64 i ∧ SeenW wo wr s.st.length (refs (s.st.take i))) (fun a _ => s.st.length - (intOf a).toNat)
          case atStart => exact ⟨0, Nat.zero_le _, rfl, seen_start _ _⟩
          case round =>
            obtain ⟨i, hi, rfl, hC⟩ := hrel
            obtain ⟨wc, rfl⟩ : ∃ wc, wc = wr := ⟨wr, rfl⟩
            have hC2 : Below w2.heap.size w2 wc := HBR.out.trans (hC.1.mono HBR.out.size)
            by_cases hlt : i < s.st.length
            · obtain ⟨g, l0, m0, rfl, hg, hl0, hm0, x0, x1, x2, x3, x4, x5, x6, x7, x8⟩ := (HV.out.below hC2).smC i hlt
              obtain ⟨g', l, m, e', hg', hl, hm, _, _, _, _, _, _, _, v7, v8⟩ := HV.out.smC i hlt
              obtain rfl : g = g' := by injection e' with e'; injection e'
              have e7 := ((hC2.cell (p := ⟨g, i * 9 + 7, none⟩) hg').trans v7).symm.trans x7
              have e8 := ((hC2.cell (p := ⟨g, i * 9 + 8, none⟩) hg').trans v8).symm.trans x8
              obtain rfl := Option.some.inj e7
              obtain rfl := Option.some.inj e8
              obtain ⟨Al, cl, rfl⟩ := hl.form
              obtain ⟨Am, cm, rfl⟩ := hm.form
              simp only [intsV_len] at *
              have HSPL := Lib.hid (refs_split hlt)
              have HTK := Lib.hid (refs_take hlt)
              have HSTO := Lib.hid (HSP.out.st i _ (List.getElem?_eq_getElem hlt))
              obtain ⟨ln1, ln2⟩ := HLEN.out.st _ (List.getElem_mem hlt)
              have HL := Lib.hid hl
              have HM := Lib.hid hm
              generalize s.st[i] = x at *
              have hi0 : (0 : Int) ≤ (i : Int) := by omega
              have hi1 : (i : Int) < (s.st.length : Int) := by omega
              have HWC := Lib.hid hC
              clear hl hm hl0 hm0 hC hC2 v7 v8 e'
              go_wp2
              go_loopw [118] (fun b wr => ∃ j : Nat, j ≤ 2 ∧ b = .int .i64 j ∧ SeenW wo wr s.st.length (refs (s.st.take i) ++ ljs x j) ∧ wr.heap[wc.heap.size]? = some (.cells #[.int .i64 (x.kind : Int), .int .i64 (x.lo : Int), .int .i64 (x.hi : Int), .string (bs x.name), .int .i64 (x.num : Int), .int .i64 x.a, .int .i64 (x.b : Int), .slice Al x.thn.length cl, .slice Am x.els.length cm] 39)) (fun b _ => 2 - (intOf b).toNat)
              case atStart => exact ⟨0, Nat.zero_le _, rfl, by rw [show ljs x 0 = [] from rfl, List.append_nil]; exact HWC.out.below ((Below.refl _ _).alloc (Nat.le_refl _) _), heap_one wc _ _⟩
              case round =>
                obtain ⟨j, hj, rfl, hD, hbx⟩ := hrel
                by_cases hlj : j < 2
                · have hj01 : j = 0 ∨ j = 1 := by omega
                  rcases hj01 with rfl | rfl
                  · rw [show ljs x 0 = [] from rfl, List.append_nil] at hD
                    rw [show ((0 : Nat) : Int) = 0 from rfl]
                    have hj0 : (0 : Int) < 2 := by omega
                    have hix : Sem.run Tryz.prog (Instr.index 40 (.agg #[.slice Al x.thn.length cl, .slice Am x.els.length cm]) (.int .i64 0)) wr = .ok (.slice Al x.thn.length cl) wr := by simp [Instr.index, go_sem]
                    go_wp2
                    go_loopw [123] (fun a wr => ∃ k : Nat, k ≤ x.thn.length ∧ a = .int .i64 k ∧ SeenW wo wr s.st.length (refs (s.st.take i) ++ x.thn.take k) ∧ wr.heap[wc.heap.size]? = some (.cells #[.int .i64 (x.kind : Int), .int .i64 (x.lo : Int), .int .i64 (x.hi : Int), .string (bs x.name), .int .i64 (x.num : Int), .int .i64 x.a, .int .i64 (x.b : Int), .slice Al x.thn.length cl, .slice Am x.els.length cm] 39)) (fun a _ => x.thn.length - (intOf a).toNat)
                    case atStart => exact ⟨0, Nat.zero_le _, rfl, by rw [List.take_zero, List.append_nil]; exact ⟨hD, hbx⟩⟩
                    case round =>
                      obtain ⟨k, hk, rfl, hE, hbx⟩ := hrel
                      have hE2 : Below w2.heap.size w2 wr := HBR.out.trans (hE.1.mono HBR.out.size)
                      by_cases hlk : k < x.thn.length
                      · obtain ⟨gv, rfl, hgv, pv⟩ := (HL.out.belowL hE2).int k hlk
                        have hmem : x.thn[k] ∈ x.thn := List.getElem_mem hlk
                        have hstep := take_step hlk
                        generalize x.thn[k] = p at *
                        obtain ⟨y, hy, hpi, y1, y2⟩ := HSTO.out p (List.mem_append.2 (.inl hmem))
                        obtain ⟨hpn, hpy⟩ := List.getElem?_eq_some_iff.1 hy
                        obtain ⟨hg6, e1, e2⟩ := (HV.out.below hE2).smP p hpn
                        rw [hpy] at e1 e2
                        have hcnt1 : (refs (s.st.take i) ++ x.thn.take k).count p ≤ 1 := by
                          have h1 := HSP.out.one p
                          rw [if_pos hpn, HSPL.out] at h1
                          have h2 := take_count x.thn k p
                          simp only [List.count_append] at h1 ⊢
                          omega
                        have hsl := hE.lt
                        have kt := (hE.1.block w2.heap.size hwr).trans K20.out
                        have lt := blk_lt kt
                        have lx := blk_lt hbx
                        have t0 := (cellK kt 1).trans rfl
                        have z1 := (cellK hbx 1).trans rfl
                        have z2 := (cellK hbx 2).trans rfl
                        have hk0 : (0 : Int) ≤ (k : Int) := by omega
                        have hk1 : (k : Int) < (x.thn.length : Int) := by omega
                        have hp0 : (0 : Int) ≤ (p : Int) := by omega
                        have hp1 : (p : Int) < (s.st.length : Int) := by omega
                        have dp0 : decide ((p : Int) < 0) = false := decide_eq_false (by omega)
                        have dp1 : decide ((i : Int) ≤ (p : Int)) = false := decide_eq_false (by omega)
                        have dp1' : decide (i ≤ p) = false := decide_eq_false (by omega)
                        have HE := Lib.hid hE
                        have HX6 := Lib.hid hbx
                        have HST := Lib.hid hstep
                        clear hE hE2 hbx kt hy hpy hmem hstep
                        go_wp2_with fail
                        go_region_held3 (fun w' => w'.cell? ⟨w2.heap.size, 1, none⟩ = some (.slice (some ⟨g, 0, none⟩) s.st.length c2) ∧ w'.cell? ⟨g, p * 9 + 1, none⟩ = some (.int .i64 (y.lo : Int)) ∧ w'.cell? ⟨g, p * 9 + 2, none⟩ = some (.int .i64 (y.hi : Int)) ∧ w'.cell? ⟨wc.heap.size, 1, none⟩ = some (.int .i64 (x.lo : Int)) ∧ w'.cell? ⟨wc.heap.size, 2, none⟩ = some (.int .i64 (x.hi : Int)))
                          (first | exact ⟨t0, e1, e2, z1, z2⟩ | exact ⟨f0, f1, f2, f3, f4⟩)
                          (first | (go_at_call 17; refine (within_calls y.lo y.hi x.lo x.hi y1 y2 _).mono ?_; rintro e w7 ⟨rfl, hB7⟩; have HB7 := Lib.hid (((Below.refl _ wr).drew).trans hB7); have f0 := (HB7.out.cell (p := ⟨w2.heap.size, 1, none⟩) lt).trans t0; have f1 := (HB7.out.cell (p := ⟨g, p * 9 + 1, none⟩) hg6).trans e1; have f2 := (HB7.out.cell (p := ⟨g, p * 9 + 2, none⟩) hg6).trans e2; have f3 := (HB7.out.cell (p := ⟨wc.heap.size, 1, none⟩) lx).trans z1; have f4 := (HB7.out.cell (p := ⟨wc.heap.size, 2, none⟩) lx).trans z2; clear hB7))
                        all_goals
                          have HE7 := Lib.hid (HE.out.below HB7.out)
                          have HX7 := Lib.hid ((HB7.out.block wc.heap.size lx).trans HX6.out)
                          obtain ⟨u0, u1⟩ := HE7.out.cell p hpn
                          have hst7 := HE7.out.step p hpn
                          generalize (refs (s.st.take i) ++ x.thn.take k).count p = cc at u0 hcnt1 hst7
                          have HST7 := Lib.hid hst7
                          clear hst7
                          have hne : wc.heap.size ≠ wo.heap.size := by have := HWC.out.lt; omega
                          go_wp2
                          go_roundw
                          case rel => exact ⟨k + 1, by omega, by go_num, by rw [HST.out, ← List.append_assoc]; exact HST7.out, by rw [setCell_ne _ _ _ _ _ hne]; exact HX7.out⟩
                          case measure => (simp [intOf] <;> omega)
                      · obtain rfl : k = x.thn.length := by omega
                        rw [List.take_length] at hE
                        have HE := Lib.hid hE
                        have HX6 := Lib.hid hbx
                        clear hE hE2 hbx
                        go_wp2
                        go_roundw
                        case rel => exact ⟨1, by omega, by first | rfl | (simp; done) | go_num, by simpa [ljs] using HE.out, HX6.out⟩
                        case measure => (simp [intOf] <;> omega)
                  · rw [show ljs x 1 = x.thn from rfl] at hD
                    rw [show ((1 : Nat) : Int) = 1 from rfl]
                    have hj1 : (1 : Int) < 2 := by omega
                    have hix : Sem.run Tryz.prog (Instr.index 40 (.agg #[.slice Al x.thn.length cl, .slice Am x.els.length cm]) (.int .i64 1)) wr = .ok (.slice Am x.els.length cm) wr := by simp [Instr.index, go_sem]
                    go_wp2
                    go_loopw [123] (fun a wr => ∃ k : Nat, k ≤ x.els.length ∧ a = .int .i64 k ∧ SeenW wo wr s.st.length ((refs (s.st.take i) ++ x.thn) ++ x.els.take k) ∧ wr.heap[wc.heap.size]? = some (.cells #[.int .i64 (x.kind : Int), .int .i64 (x.lo : Int), .int .i64 (x.hi : Int), .string (bs x.name), .int .i64 (x.num : Int), .int .i64 x.a, .int .i64 (x.b : Int), .slice Al x.thn.length cl, .slice Am x.els.length cm] 39)) (fun a _ => x.els.length - (intOf a).toNat)
                    case atStart => exact ⟨0, Nat.zero_le _, rfl, by rw [List.take_zero, List.append_nil]; exact ⟨hD, hbx⟩⟩
                    case round =>
                      obtain ⟨k, hk, rfl, hE, hbx⟩ := hrel
                      have hE2 : Below w2.heap.size w2 wr := HBR.out.trans (hE.1.mono HBR.out.size)
                      by_cases hlk : k < x.els.length
                      · obtain ⟨gv, rfl, hgv, pv⟩ := (HM.out.belowL hE2).int k hlk
                        have hmem : x.els[k] ∈ x.els := List.getElem_mem hlk
                        have hstep := take_step hlk
                        generalize x.els[k] = p at *
                        obtain ⟨y, hy, hpi, y1, y2⟩ := HSTO.out p (List.mem_append.2 (.inr hmem))
                        obtain ⟨hpn, hpy⟩ := List.getElem?_eq_some_iff.1 hy
                        obtain ⟨hg6, e1, e2⟩ := (HV.out.below hE2).smP p hpn
                        rw [hpy] at e1 e2
                        have hcnt1 : ((refs (s.st.take i) ++ x.thn) ++ x.els.take k).count p ≤ 1 := by
                          have h1 := HSP.out.one p
                          rw [if_pos hpn, HSPL.out] at h1
                          have h2 := take_count x.els k p
                          simp only [List.count_append] at h1 ⊢
                          omega
                        have hsl := hE.lt
                        have kt := (hE.1.block w2.heap.size hwr).trans K20.out
                        have lt := blk_lt kt
                        have lx := blk_lt hbx
                        have t0 := (cellK kt 1).trans rfl
                        have z1 := (cellK hbx 1).trans rfl
                        have z2 := (cellK hbx 2).trans rfl
                        have hk0 : (0 : Int) ≤ (k : Int) := by omega
                        have hk1 : (k : Int) < (x.els.length : Int) := by omega
                        have hp0 : (0 : Int) ≤ (p : Int) := by omega
                        have hp1 : (p : Int) < (s.st.length : Int) := by omega
                        have dp0 : decide ((p : Int) < 0) = false := decide_eq_false (by omega)
                        have dp1 : decide ((i : Int) ≤ (p : Int)) = false := decide_eq_false (by omega)
                        have dp1' : decide (i ≤ p) = false := decide_eq_false (by omega)
                        have HE := Lib.hid hE
                        have HX6 := Lib.hid hbx
                        have HST := Lib.hid hstep
                        clear hE hE2 hbx kt hy hpy hmem hstep
                        go_wp2_with fail
                        go_region_held3 (fun w' => w'.cell? ⟨w2.heap.size, 1, none⟩ = some (.slice (some ⟨g, 0, none⟩) s.st.length c2) ∧ w'.cell? ⟨g, p * 9 + 1, none⟩ = some (.int .i64 (y.lo : Int)) ∧ w'.cell? ⟨g, p * 9 + 2, none⟩ = some (.int .i64 (y.hi : Int)) ∧ w'.cell? ⟨wc.heap.size, 1, none⟩ = some (.int .i64 (x.lo : Int)) ∧ w'.cell? ⟨wc.heap.size, 2, none⟩ = some (.int .i64 (x.hi : Int)))
                          (first | exact ⟨t0, e1, e2, z1, z2⟩ | exact ⟨f0, f1, f2, f3, f4⟩)
                          (first | (go_at_call 17; refine (within_calls y.lo y.hi x.lo x.hi y1 y2 _).mono ?_; rintro e w7 ⟨rfl, hB7⟩; have HB7 := Lib.hid (((Below.refl _ wr).drew).trans hB7); have f0 := (HB7.out.cell (p := ⟨w2.heap.size, 1, none⟩) lt).trans t0; have f1 := (HB7.out.cell (p := ⟨g, p * 9 + 1, none⟩) hg6).trans e1; have f2 := (HB7.out.cell (p := ⟨g, p * 9 + 2, none⟩) hg6).trans e2; have f3 := (HB7.out.cell (p := ⟨wc.heap.size, 1, none⟩) lx).trans z1; have f4 := (HB7.out.cell (p := ⟨wc.heap.size, 2, none⟩) lx).trans z2; clear hB7))
                        all_goals
                          have HE7 := Lib.hid (HE.out.below HB7.out)
                          have HX7 := Lib.hid ((HB7.out.block wc.heap.size lx).trans HX6.out)
                          obtain ⟨u0, u1⟩ := HE7.out.cell p hpn
                          have hst7 := HE7.out.step p hpn
                          generalize ((refs (s.st.take i) ++ x.thn) ++ x.els.take k).count p = cc at u0 hcnt1 hst7
                          have HST7 := Lib.hid hst7
                          clear hst7
                          have hne : wc.heap.size ≠ wo.heap.size := by have := HWC.out.lt; omega
                          go_wp2
                          go_roundw
                          case rel => exact ⟨k + 1, by omega, by go_num, by rw [HST.out, ← List.append_assoc]; exact HST7.out, by rw [setCell_ne _ _ _ _ _ hne]; exact HX7.out⟩
                          case measure => (simp [intOf] <;> omega)
                      · obtain rfl : k = x.els.length := by omega
                        rw [List.take_length] at hE
                        have HE := Lib.hid hE
                        have HX6 := Lib.hid hbx
                        clear hE hE2 hbx
                        go_wp2
                        go_roundw
                        case rel => exact ⟨2, by omega, by first | rfl | (simp; done) | go_num, by simpa [ljs, List.append_assoc] using HE.out, HX6.out⟩
                        case measure => (simp [intOf] <;> omega)
                · obtain rfl : j = 2 := by omega
                  rw [show ljs x 2 = x.thn ++ x.els from rfl] at hD
                  have HD := Lib.hid hD
                  clear hD hbx
                  go_wp2
                  go_roundw
                  case rel => exact ⟨i + 1, by omega, by go_num, by rw [HTK.out]; exact HD.out⟩
                  case measure => (simp [intOf] <;> omega)
            · obtain rfl : i = s.st.length := by omega
              rw [List.take_length] at hC
              have kt := (hC.1.block w2.heap.size hwr).trans K20.out
              have q2 := (cellK kt 2).trans rfl
              have HC := Lib.hid hC
              clear hC hC2 kt hlt hi q1 q1' hmk
              go_wp2
              go_loopw [158] (fun a wr => ∃ i : Nat, i ≤ s.fn.length ∧ a = .int .i64 i ∧ SeenW wo wr s.st.length (refs s.st ++ bodies (s.fn.take i))) (fun a _ => s.fn.length - (intOf a).toNat)
              case atStart => exact ⟨0, Nat.zero_le _, rfl, by simpa [bodies] using HC.out⟩
              case round =>
                obtain ⟨i, hi, rfl, hF⟩ := hrel
                obtain ⟨wf, rfl⟩ : ∃ wf, wf = wr := ⟨wr, rfl⟩
                have hF2 : Below w2.heap.size w2 wf := HBR.out.trans (hF.1.mono HBR.out.size)
                by_cases hlt : i < s.fn.length
                · obtain ⟨g3, l0, m0, rfl, hg, hl0, hm0, x0, x1, x2, x3, x4, x5⟩ := (HV.out.below hF2).fuC i hlt
                  obtain ⟨g', l, m, e', hg', hl, hm, _, _, _, v3, _, v5⟩ := HV.out.fuC i hlt
                  obtain rfl : g3 = g' := by injection e' with e'; injection e'
                  have e3 := ((hF2.cell (p := ⟨g3, i * 6 + 3, none⟩) hg').trans v3).symm.trans x3
                  have e5 := ((hF2.cell (p := ⟨g3, i * 6 + 5, none⟩) hg').trans v5).symm.trans x5
                  obtain rfl := Option.some.inj e3
                  obtain rfl := Option.some.inj e5
                  obtain ⟨Al, cl, rfl⟩ := hl.form
                  obtain ⟨Am, cm, rfl⟩ := hm.form
                  simp only [intsV_len, strsV_len] at *
                  have HSPL := Lib.hid (bodies_split hlt)
                  have HTK := Lib.hid (bodies_take hlt)
                  have HFN := Lib.hid (HSP.out.fn _ (List.getElem_mem hlt))
                  obtain ⟨ln1, ln2⟩ := HLEN.out.fn _ (List.getElem_mem hlt)
                  have HM := Lib.hid hm
                  generalize s.fn[i] = x at *
                  have hi0 : (0 : Int) ≤ (i : Int) := by omega
                  have hi1 : (i : Int) < (s.fn.length : Int) := by omega
                  have HWC := Lib.hid hF
                  clear hl hm hl0 hm0 hF hF2 v3 v5 e'
                  have A2f : ∀ k, k < s.st.length → ∃ g, A2 = some ⟨g, 0, none⟩ := fun k hk => by
                    obtain ⟨g, _, _, e, _⟩ := HV.out.smC k hk
                    exact ⟨g, e⟩
                  go_wp2
                  go_loopw [165] (fun a wr => ∃ k : Nat, k ≤ x.body.length ∧ a = .int .i64 k ∧ SeenW wo wr s.st.length ((refs s.st ++ bodies (s.fn.take i)) ++ x.body.take k) ∧ wr.heap[wf.heap.size]? = some (.cells #[.string (bs x.name), .int .i64 (x.lo : Int), .int .i64 (x.hi : Int), .slice Al x.params.length cl, .int .i64 (x.ty : Int), .slice Am x.body.length cm] 43)) (fun a _ => x.body.length - (intOf a).toNat)
                  case atStart => exact ⟨0, Nat.zero_le _, rfl, by rw [List.take_zero, List.append_nil]; exact ⟨HWC.out.below ((Below.refl _ _).alloc (Nat.le_refl _) _), heap_one wf _ _⟩⟩
                  case round =>
                    obtain ⟨k, hk, rfl, hE, hbx⟩ := hrel
                    have hE2 : Below w2.heap.size w2 wr := HBR.out.trans (hE.1.mono HBR.out.size)
                    by_cases hlk : k < x.body.length
                    · obtain ⟨gv, rfl, hgv, pv⟩ := (HM.out.belowL hE2).int k hlk
                      have hmem : x.body[k] ∈ x.body := List.getElem_mem hlk
                      have hstep := take_step hlk
                      generalize x.body[k] = p at *
                      obtain ⟨y, hy, y1, y2⟩ := HFN.out p hmem
                      obtain ⟨hpn, hpy⟩ := List.getElem?_eq_some_iff.1 hy
                      obtain ⟨g, rfl⟩ := A2f p hpn
                      obtain ⟨hg6, e1, e2⟩ := (HV.out.below hE2).smP p hpn
                      rw [hpy] at e1 e2
                      have hcnt1 : ((refs s.st ++ bodies (s.fn.take i)) ++ x.body.take k).count p ≤ 1 := by
                        have h1 := HSP.out.one p
                        rw [if_pos hpn, HSPL.out] at h1
                        have h2 := take_count x.body k p
                        simp only [List.count_append] at h1 ⊢
                        omega
                      have hsl := hE.lt
                      have kt := (hE.1.block w2.heap.size hwr).trans K20.out
                      have lt := blk_lt kt
                      have lx := blk_lt hbx
                      have t0 := (cellK kt 1).trans rfl
                      have z1 := (cellK hbx 1).trans rfl
                      have z2 := (cellK hbx 2).trans rfl
                      have hk0 : (0 : Int) ≤ (k : Int) := by omega
                      have hk1 : (k : Int) < (x.body.length : Int) := by omega
                      have hp0 : (0 : Int) ≤ (p : Int) := by omega
                      have hp1 : (p : Int) < (s.st.length : Int) := by omega
                      have dp0 : decide ((p : Int) < 0) = false := decide_eq_false (by omega)
                      have dp1 : decide ((s.st.length : Int) ≤ (p : Int)) = false := decide_eq_false (by omega)
                      have dp1' : decide (s.st.length ≤ p) = false := decide_eq_false (by omega)
                      have HE := Lib.hid hE
                      have HX6 := Lib.hid hbx
                      have HST := Lib.hid hstep
                      clear hE hE2 hbx kt hy hpy hmem hstep
                      go_wp2_with fail
                      go_region_held3 (fun w' => w'.cell? ⟨w2.heap.size, 1, none⟩ = some (.slice (some ⟨g, 0, none⟩) s.st.length c2) ∧ w'.cell? ⟨g, p * 9 + 1, none⟩ = some (.int .i64 (y.lo : Int)) ∧ w'.cell? ⟨g, p * 9 + 2, none⟩ = some (.int .i64 (y.hi : Int)) ∧ w'.cell? ⟨wf.heap.size, 1, none⟩ = some (.int .i64 (x.lo : Int)) ∧ w'.cell? ⟨wf.heap.size, 2, none⟩ = some (.int .i64 (x.hi : Int)))
                        (first | exact ⟨t0, e1, e2, z1, z2⟩ | exact ⟨f0, f1, f2, f3, f4⟩)
                        (first | (go_at_call 17; refine (within_calls y.lo y.hi x.lo x.hi y1 y2 _).mono ?_; rintro e w7 ⟨rfl, hB7⟩; have HB7 := Lib.hid (((Below.refl _ wr).drew).trans hB7); have f0 := (HB7.out.cell (p := ⟨w2.heap.size, 1, none⟩) lt).trans t0; have f1 := (HB7.out.cell (p := ⟨g, p * 9 + 1, none⟩) hg6).trans e1; have f2 := (HB7.out.cell (p := ⟨g, p * 9 + 2, none⟩) hg6).trans e2; have f3 := (HB7.out.cell (p := ⟨wf.heap.size, 1, none⟩) lx).trans z1; have f4 := (HB7.out.cell (p := ⟨wf.heap.size, 2, none⟩) lx).trans z2; clear hB7))
                      all_goals
                        have HE7 := Lib.hid (HE.out.below HB7.out)
                        have HX7 := Lib.hid ((HB7.out.block wf.heap.size lx).trans HX6.out)
                        obtain ⟨u0, u1⟩ := HE7.out.cell p hpn
                        have hst7 := HE7.out.step p hpn
                        generalize ((refs s.st ++ bodies (s.fn.take i)) ++ x.body.take k).count p = cc at u0 hcnt1 hst7
                        have HST7 := Lib.hid hst7
                        clear hst7
                        have hne : wf.heap.size ≠ wo.heap.size := by have := HWC.out.lt; omega
                        go_wp2
                        go_roundw
                        case rel => exact ⟨k + 1, by omega, by go_num, by rw [HST.out, ← List.append_assoc]; exact HST7.out, by rw [setCell_ne _ _ _ _ _ hne]; exact HX7.out⟩
                        case measure => (simp [intOf] <;> omega)
                    · obtain rfl : k = x.body.length := by omega
                      rw [List.take_length] at hE
                      have HE := Lib.hid hE
                      have HX6 := Lib.hid hbx
                      clear hE hE2 hbx
                      go_wp2
                      go_roundw
                      case rel => exact ⟨i + 1, by omega, by go_num, by rw [HTK.out, ← List.append_assoc]; exact HE.out⟩
                      case measure => (simp [intOf] <;> omega)
                · obtain rfl : i = s.fn.length := by omega
                  rw [List.take_length] at hF
                  have HF := Lib.hid hF
                  clear hF hF2 hlt hi
                  go_wp2
                  go_loopw [200] (fun a wr => ∃ i : Nat, i ≤ s.st.length ∧ a = .int .i64 i ∧ SeenW wo wr s.st.length (refs s.st ++ bodies s.fn)) (fun a _ => s.st.length - (intOf a).toNat)
                  case atStart => exact ⟨0, Nat.zero_le _, rfl, HF.out⟩
                  case round =>
                    obtain ⟨i, hi, rfl, hH⟩ := hrel
                    by_cases hlt : i < s.st.length
                    · obtain ⟨u0, u1⟩ := hH.cell i hlt
                      have h1 := HSP.out.one i
                      rw [if_pos hlt] at h1
                      rw [h1] at u0
                      have hi0 : (0 : Int) ≤ (i : Int) := by omega
                      have hi1 : (i : Int) < (s.st.length : Int) := by omega
                      have HH := Lib.hid hH
                      clear hH h1
                      go_wp2
                      go_roundw
                      case rel => exact ⟨i + 1, by omega, by go_num, HH.out⟩
                      case measure => (simp [intOf] <;> omega)
                    · obtain rfl : i = s.st.length := by omega
                      have HH := Lib.hid hH
                      clear hH
                      go_wp2
                      go_ret
                      exact ⟨rfl, HB2.out.trans ((HBR.out.trans (HH.out.1.mono HBR.out.size)).mono HB2.out.size)⟩
  · have hd : decide ((600 : Int) < (a0.size : Int)) = true := decide_eq_true (by omega)
    go_enter Tryz.func3, Tryz.ntmps3
    go_wp2_with fail
    refine (awake_calls _ HT.out).mono ?_
    rintro e w1 ⟨rfl, hB1⟩
    have HT1 := Lib.hid (HT.out.below hB1 h2)
    have HB1 := Lib.hid hB1
    clear hB1
    go_wp2_with fail
    refine (awake_calls _ HT1.out).mono ?_
    rintro e w2 ⟨rfl, hB2⟩
    go_wp2
    go_ret
    exact ⟨rfl, HB1.out.trans (hB2.mono HB1.out.size)⟩


set_option maxRecDepth 100000 in
theorem lifted (os : Os) (started : os.Started) (H : Type) (enc : TypeId × Value → H) :
    ReturnsInHanded {} Tryz.checked os 3 .any (fun w args => (Rows.syntaxSpansSpec.pre enc Tryz.prog Tryz.f3 [] false w args ∧ laidMetH Tryz.prog laid2 w) ∧ sizedMet enc Tryz.prog Tryz.f3 (OpenSpec.ofChange Rows.syntaxSpansSpec) false w args)
      (Rows.syntaxSpansSpec.post enc Tryz.prog Tryz.f3 false true false false) := by
  refine returnsInHanded_of_change_and (C := Tryz.checked) (X := fun w _ => laidMetH Tryz.prog laid2 w) (fun _ _ _ hh h => h.of_heap hh) Tryz.own started (by kernel_rfl) Tryz.func3
    (ChangeSpec.witness_shaped (enc := enc) (C := Tryz.checked) (os := os) (X := fun w _ => laidMetH Tryz.prog laid2 w) false (World.doorLaid Tryz.prog 233 os) #[.string ByteArray.empty] 8 rfl (World.shaped_of_RefB (by kernel_rfl) (by kernel_rfl)) (by kernel_rfl) (by kernel_rfl) (by kernel_rfl) (door_met os _)) ?_
  intro W base args ds gs before hval0 hW hcnd hsz hL _
  have hval : ∀ (j : Nat) t v, Tryz.f3.params[j]? = some t → args[j]? = some v → Value.okWide Tryz.prog W .any base t v := hval0
  have hW' := hW
  obtain ⟨p, q, hA0, hV, rfl, hfz, hnd⟩ := hW
  have hA : DataW.TrodAll enc Tryz.prog W 0 (fun _ => true) true Tryz.f3.params.toList args.toList ds p := hA0
  rw [Tryz.params3] at hA hval
  obtain ⟨v0, vs0, d0, ds0, p0, q0, hargs, rfl, rfl, h0, r0⟩ := trodAll_cons hA
  obtain ⟨rfl, rfl, rfl⟩ := trodAll_nil r0
  obtain rfl : args = #[v0] := by cases args; simp_all
  obtain ⟨rfl, rfl⟩ := trodVars_none hV
  obtain ⟨a0, rfl, rfl, rfl, w0⟩ := open_string Tryz.underlying9 (hval 0 9 v0 rfl rfl) h0
  clear hA0 hval0
  simp only [List.append_nil] at hW'
  refine (walk a0 W (tabs_of_laid hL)).mono fun e W' ⟨he, hg⟩ => ?_
  subst he
  exact ⟨_, rfl, _, _, _, [], [], [], hW', trodAll_cons_mk (shut_bool Tryz.underlying4 _) trodAll_mk0, (trodAll_cons_mk (shut_string Tryz.underlying9 w0) trodAll_mk0), rfl, hg.frame _, fun h => by cases h⟩

theorem over : Rows.SyntaxSpansSaid :=
  OpenClaim.holds_of_wide 3 Tryz.f3 rfl rfl rfl rfl rfl rfl rfl ⟨rfl, rfl, rfl, rfl, rfl⟩ rfl rfl rfl rfl rfl (by kernel_rfl) Tryz.func3 (by kernel_rfl)
    (of_decide_eq_true (by kernel_rfl)) (by unfold Func.isWrapper; first | (rw [if_pos (by decide +kernel)]; kernel_rfl) | (rw [if_neg (by decide +kernel)]; exact ⟨rfl, rfl⟩))
    (fun os started H enc _ => lifted os started H enc)

theorem proved : Rows.SyntaxSpansCardSaid :=
  Claim7.holds_tied_plain_at .later [] [.data, .data, .data, .sentinel, .sentinel, .data, .data] true (true, "e16af3669a31a138b6f0a67cedbca0c9b2bdc8ebff04942fd3db04372b172399") true
    over (fun _ h => by cases h) (by kernel_rfl) (fun _ h => by cases h) syntaxSpans_row_tie rfl ⟨rfl, rfl⟩ (by kernel_rfl) rfl
    (fun f fn hf hfn => by
      obtain rfl : f = 3 := Option.some.inj ((show Tryz.prog.funcNamed Rows.syntaxSpansRow.func = some 3 by kernel_rfl).symm.trans hf) |>.symm
      obtain rfl : fn = Tryz.f3 := (Option.some.inj (Tryz.func3.symm.trans hfn)).symm
      exact ⟨by kernel_rfl, fun j t ht => by
        rw [Tryz.params3] at ht
        rcases j with _ | j
        · obtain rfl : t = 9 := by simpa using ht.symm
          exact (show Tryz.prog.wantsStandIn 9 = false by kernel_rfl)
        simp at ht⟩)
    (by kernel_rfl)
#print axioms proved
end Go.Proofs.YtccmodefjgjpeaaGreatDoor.syntaxSpans
