/-
  PrintBack: for every text the statement answers true, and its argument reads as before. No condition but that the listed variables lie as the program's text lays them (the tie).
-/
import Derived.Test.YtdeflloidhbpmaaGreatDoorRows
import Derived.Test.YtdeflloidhbpmaaGreatDoorCards
import Derived.Test.YtdeflloidhbpmaaGreatDoorTie
import Derived.WalkKit
import Derived.WalkSpells
import Derived.ProofKit
import Derived.OpenShut
import Derived.ShutString
import Derived.Lib.SmallJoins
import Derived.SevenTiedAt
import Derived.Deep.RegionHeld3
import Derived.Test.YtdeflloidhbpmaaGreatDoorK49
import Derived.Test.YtdeflloidhbpmaaGreatDoorK51
import Derived.Test.YtdeflloidhbpmaaGreatDoorK48
namespace Go.Proofs.YtdeflloidhbpmaaGreatDoor.printBack
open Go.ChangeShapes Go.WideShapes Go.ChangeAt Go.RowKit Go.Proofs.YtdeflloidhbpmaaGreatDoor Go.Joins
open Go.ChangeMaps (open_string shut_string)
set_option linter.unusedVariables false


theorem tabsP_of {W : World} (h : laidMetH Tryz.prog laidP W) : TabsP W := by
  obtain ⟨h1, h2, h3⟩ := tabs_of_laid h
  exact ⟨h1, h2, h3⟩
theorem tri {w : World} {b : Nat} {u v x : Value} {t : TypeId} {fr : Nat × Nat} (h : w.heap[b]? = some (.cells #[u, v, x] t fr)) : w.cell? ⟨b, 0, none⟩ = some u ∧ w.cell? ⟨b, 1, none⟩ = some v ∧ w.cell? ⟨b, 2, none⟩ = some x := ⟨cellK h 0, cellK h 1, cellK h 2⟩
/-- A box that goes on lying. -/
theorem box_keep {w w' : World} {b : Nat} {o : Obj} (h : w.heap[b]? = some o) (hB : Below w.heap.size w w') : w'.heap[b]? = some o := (hB.block b (blk_lt h)).trans h

set_option maxRecDepth 100000 in
set_option maxHeartbeats 8000000 in
/-- PrintBack answers true, and leaves what there was. -/
theorem walk (a0 : ByteArray) (w : World) (hT : TabsP w) :
    Calls Tryz.prog 4 #[.string a0] w fun e w' => e = .returned (.bool true) ∧ Below w.heap.size w w' := by
  have HT := Lib.hid hT
  clear hT
  by_cases hs : a0.size ≤ 600
  · have hd : decide ((600 : Int) < (a0.size : Int)) = false := decide_eq_false (by omega)
    have hl6 : a0.data.toList.length ≤ 600 := by rw [sizeL]; omega
    have HF := Lib.hid (fun W hW => front_calls a0 (by omega) W hW)
    cases hres : parseT a0.data.toList with
    | bad p c =>
      obtain ⟨_, hc⟩ := parseT_bad hres
      have HR := Lib.hid hres
      have hc0 : ((c : Int) == 0) = false := by rw [beq_eq_false_iff_ne]; omega
      clear hres hc
      go_enter Tryz.func4, Tryz.ntmps4
      go_wp2_with fail
      refine (awake_calls _ HT.out).mono ?_
      rintro e w1 ⟨rfl, hB1⟩
      have HT1 := Lib.hid (HT.out.below hB1)
      have HB1 := Lib.hid hB1
      clear hB1
      go_wp2_with fail
      refine (HF.out _ HT1.out.tabs).mono ?_
      intro e w2 h3
      obtain ⟨hB2, he⟩ := h3.bad HR.out
      have HB2 := Lib.hid (HB1.out.trans (hB2.mono HB1.out.size))
      clear hB2 h3
      subst he
      unfold nilT
      go_wp2
      go_ret
      exact ⟨rfl, HB2.out.alloc HB2.out.size _⟩
    | good s =>
      obtain ⟨s', hs', e2, e3, e4, e5⟩ := print_back (by omega) hres
      have HR := Lib.hid hres
      have HS := Lib.hid hs'
      have hn := parseT_good hres
      have hcn := parse_cnt hres
      have hfw := parse_few _ (by omega) hres
      have hll := parse_len hres
      have hbg : bareSg s' = bareSg s := by unfold bareSg; rw [e2, e3, e4]
      have hx' : s'.ex.length = s.ex.length := by simpa using congrArg List.length e2
      have hst' : s'.st.length = s.st.length := by simpa using congrArg List.length e3
      have hfn' : s'.fn.length = s.fn.length := by simpa using congrArg List.length e4
      have hls' : ∀ x ∈ s'.ex, x.list.length ≤ 10000 := by
        intro x hx
        obtain ⟨i, hi, rfl⟩ := List.mem_iff_getElem.1 hx
        have h1 : (s'.ex.map bare)[i]? = (s.ex.map bare)[i]? := by rw [e2]
        rw [List.getElem?_map, List.getElem?_map, List.getElem?_eq_getElem hi, List.getElem?_eq_getElem (by omega : i < s.ex.length)] at h1
        have h2 := congrArg Ex.list (Option.some.inj h1)
        have h3 : s'.ex[i].list = (s.ex[i]'(by omega)).list := h2
        rw [h3]
        have := hll.ex _ (List.getElem_mem (by omega : i < s.ex.length))
        omega
      have hout := parse_out (by omega) hres (by omega)
      have hlb : LenOk 902 (bareSg s) := by
        refine ⟨fun x hx => ?_, fun x hx => ?_, fun x hx => ?_⟩
        · obtain ⟨y, hy, rfl⟩ := List.mem_map.1 hx
          have := hll.ex y hy
          show y.list.length ≤ 902
          omega
        · obtain ⟨y, hy, rfl⟩ := List.mem_map.1 hx
          have := hll.st y hy
          show y.thn.length ≤ 902 ∧ y.els.length ≤ 902
          omega
        · obtain ⟨y, hy, rfl⟩ := List.mem_map.1 hx
          have := hll.fn y hy
          show y.params.length ≤ 902 ∧ y.body.length ≤ 902
          omega
      have HSM : Hid (∀ W v1 v2, TrIn (fun _ => True) W v1 (bareSg s) → TrIn (fun _ => True) W v2 (bareSg s) → Calls Tryz.prog 14 #[v1, v2] W fun e w' => e = .returned (.bool true) ∧ Below W.heap.size W w') := Lib.hid fun W v1 v2 h1 h2 =>
        sameT_calls _ _ v1 v2 (bareSg s) 902 (by omega) hlb (by simp [bareSg]; omega) (by simp [bareSg]; omega) (by simp [bareSg]; omega) W h1 h2
      have HBT : Hid (∀ W v, TrAt W v s → Calls Tryz.prog 15 #[v] W (BareP s W)) := Lib.hid fun W v hv => bare_calls _ v s (by omega) (by omega) (by omega) W hv
      have HBU : Hid (∀ W v, TrAt W v s' → Calls Tryz.prog 15 #[v] W (BareP s' W)) := Lib.hid fun W v hv => bare_calls _ v s' (by omega) (by omega) (by omega) W hv
      have HPT : Hid (∀ W v, TabsP W → TrAt W v s → Calls Tryz.prog 11 #[v] W (PrP (byt (progG Lib.decDigits s)) W)) := Lib.hid fun W v hW hv => print_parsed hW (by omega) HR.out hv
      generalize hb : byt (progG Lib.decDigits s) = b at HPT hout hs' HS
      have HPU : Hid (b.length ≤ 20000 → ∀ W v, TabsP W → TrAt W v s' → Calls Tryz.prog 11 #[v] W (PrP b W)) := Lib.hid fun hlb W v hW hv => by
        obtain ⟨g, c, hlev⟩ := hW.lev
        have := print_calls hlev hW.pow hlb HS.out hls' (by omega) (by omega) (by omega) (by rw [e5, hb]; exact hout) hv
        rwa [e5, hb] at this
      have HN : Hid (s'.ex.length = s.ex.length ∧ s'.st.length = s.st.length ∧ s'.fn.length = s.fn.length ∧ bareSg s' = bareSg s) := Lib.hid ⟨hx', hst', hfn', hbg⟩
      clear hres hn hcn hfw hll hx' hst' hfn' hls' hout hlb e2 e3 e4 e5 hs' hb hbg
      have hsz : (bs b).size = b.length := bs_size b
      have HF2 := Lib.hid (fun (hl : b.length ≤ 20000) W hW => front_calls (bs b) (by omega) W hW)
      rw [bs_toList] at HF2
      go_enter Tryz.func4, Tryz.ntmps4
      go_wp2_with fail
      refine (awake_calls _ HT.out).mono ?_
      rintro e w1 ⟨rfl, hB1⟩
      have HT1 := Lib.hid (HT.out.below hB1)
      have HB1 := Lib.hid hB1
      clear hB1
      go_wp2_with fail
      refine (HF.out _ HT1.out.tabs).mono ?_
      intro e w2 h3
      obtain ⟨hB2, v, he, ht⟩ := h3.good HR.out
      obtain ⟨A1, c1, A2, c2, A3, c3, rfl⟩ := ht.form
      have HT2 := Lib.hid (HT1.out.below hB2)
      have HB2 := Lib.hid (HB1.out.trans (hB2.mono HB1.out.size))
      have HTR := Lib.hid ht
      clear hB2 h3 ht
      subst he
      have hbt := heap_one w2 #[.slice A1 s.ex.length c1, .slice A2 s.st.length c2, .slice A3 s.fn.length c3] 27
      have hal := (Below.refl w2.heap.size w2).alloc (Nat.le_refl _) (.cells #[.slice A1 s.ex.length c1, .slice A2 s.st.length c2, .slice A3 s.fn.length c3] 27)
      have HBX := Lib.hid hbt
      have HAL := Lib.hid hal
      have q0 := cellK hbt 0
      have q1 := cellK hbt 1
      have q2 := cellK hbt 2
      clear hbt hal
      go_wp2_with (go_at_call 11; refine (HPT.out _ _ (HT2.out.below HAL.out) (HTR.out.below HAL.out)).mono ?_)
      rintro e w3 ⟨rfl, hB3⟩
      clear q0 q1 q2
      have HT3 := Lib.hid ((HT2.out.below HAL.out).below hB3)
      have HTR3 := Lib.hid ((HTR.out.below HAL.out).below hB3)
      have HBX3 := Lib.hid (box_keep HBX.out hB3)
      have HB3 := Lib.hid ((HB2.out.trans (HAL.out.mono HB2.out.size)).trans (hB3.mono (Nat.le_trans HB2.out.size HAL.out.size)))
      clear hB3 HBX HTR HT2 HB2 HAL
      by_cases hlen : b.length ≤ 20000
      · have hd2 : decide ((20000 : Int) < (b.length : Int)) = false := decide_eq_false (by omega)
        have HF3 := Lib.hid (HF2.out hlen)
        have HPU3 := Lib.hid (HPU.out hlen)
        clear hlen HF2 HPU
        have cb0 := cellK HBX3.out 0
        go_wp2_with (go_at_call 13; refine (HF3.out _ HT3.out.tabs).mono ?_)
        clear cb0
        intro e w4 h4
        obtain ⟨hB4, v, he, ht⟩ := h4.good HS.out
        obtain ⟨D1, d1, D2, d2, D3, d3, rfl⟩ := ht.form
        have hal := (Below.refl w4.heap.size w4).alloc (Nat.le_refl _) (.cells #[.slice D1 s'.ex.length d1, .slice D2 s'.st.length d2, .slice D3 s'.fn.length d3] 27)
        have HBXB := Lib.hid (heap_one w4 #[.slice D1 s'.ex.length d1, .slice D2 s'.st.length d2, .slice D3 s'.fn.length d3] 27)
        have HBXA := Lib.hid (box_keep (box_keep HBX3.out hB4) hal)
        have HTU : Hid (TrAt (w4.alloc (.cells #[.slice D1 s'.ex.length d1, .slice D2 s'.st.length d2, .slice D3 s'.fn.length d3] 27)) (.agg #[.slice D1 s'.ex.length d1, .slice D2 s'.st.length d2, .slice D3 s'.fn.length d3]) s') := Lib.hid (ht.below hal)
        have HTT : Hid (TrAt (w4.alloc (.cells #[.slice D1 s'.ex.length d1, .slice D2 s'.st.length d2, .slice D3 s'.fn.length d3] 27)) (.agg #[.slice A1 s.ex.length c1, .slice A2 s.st.length c2, .slice A3 s.fn.length c3]) s) := Lib.hid ((HTR3.out.below hB4).below hal)
        have HT5 := Lib.hid ((HT3.out.below hB4).below hal)
        have HB5 := Lib.hid ((HB3.out.trans (hB4.mono HB3.out.size)).trans (hal.mono (Nat.le_trans HB3.out.size hB4.size)))
        clear hB4 h4 ht hal HT3 HTR3 HBX3 HF3 HB3
        subst he
        go_upto_region 10 with fail
        generalize (w4.alloc (.cells #[.slice D1 s'.ex.length d1, .slice D2 s'.st.length d2, .slice D3 s'.fn.length d3] 27)) = w5 at HBXA HBXB HTU HTT HT5 HB5 ⊢
        have HBU5 : Hid (∀ W, Below w5.heap.size w5 W → Calls Tryz.prog 15 #[.agg #[.slice D1 s'.ex.length d1, .slice D2 s'.st.length d2, .slice D3 s'.fn.length d3]] W (BareP s' W)) := Lib.hid fun W hW => HBU.out W _ (HTU.out.below hW)
        have HBT5 : Hid (∀ W, Below w5.heap.size w5 W → Calls Tryz.prog 15 #[.agg #[.slice A1 s.ex.length c1, .slice A2 s.st.length c2, .slice A3 s.fn.length c3]] W (BareP s W)) := Lib.hid fun W hW => HBT.out W _ (HTT.out.below hW)
        have HPU5 : Hid (∀ W, Below w5.heap.size w5 W → Calls Tryz.prog 11 #[.agg #[.slice D1 s'.ex.length d1, .slice D2 s'.st.length d2, .slice D3 s'.fn.length d3]] W (PrP b W)) := Lib.hid fun W hW => HPU3.out W _ (HT5.out.below hW) (HTU.out.below hW)
        have HBX : Hid (Below w5.heap.size w5 w5.drew) := Lib.hid (Below.refl _ _).drew
        have hq : ((bs b).toList == (bs b).toList) = true := beq_self_eq_true _
        obtain ⟨x0, x1, x2⟩ := tri (box_keep HBXA.out HBX.out); obtain ⟨y0, y1, y2⟩ := tri (box_keep HBXB.out HBX.out)
        go_region_held3 (fun w' => w'.cell? ⟨w2.heap.size, 0, none⟩ = some (.slice A1 s.ex.length c1) ∧ w'.cell? ⟨w2.heap.size, 1, none⟩ = some (.slice A2 s.st.length c2) ∧ w'.cell? ⟨w2.heap.size, 2, none⟩ = some (.slice A3 s.fn.length c3) ∧ w'.cell? ⟨w4.heap.size, 0, none⟩ = some (.slice D1 s'.ex.length d1) ∧ w'.cell? ⟨w4.heap.size, 1, none⟩ = some (.slice D2 s'.st.length d2) ∧ w'.cell? ⟨w4.heap.size, 2, none⟩ = some (.slice D3 s'.fn.length d3))
          (first | with_reducible exact ⟨x0, x1, x2, y0, y1, y2⟩)
          (first | (go_at_call 15; (with_reducible refine (HBU5.out _ HBX.out).mono ?_); intro e6 w6 h6; obtain ⟨v6, rfl, hB6, ht6⟩ := h6; rw [HN.out.2.2.2] at ht6; have HU6 := Lib.hid ht6; have HBX := Lib.hid (HBX.out.trans (hB6.mono HBX.out.size)); clear hB6 ht6; obtain ⟨x0, x1, x2⟩ := tri (box_keep HBXA.out HBX.out); obtain ⟨y0, y1, y2⟩ := tri (box_keep HBXB.out HBX.out)) | (go_at_call 15; (with_reducible refine (HBT5.out _ HBX.out).mono ?_); intro e7 w7 h7; obtain ⟨v7, rfl, hB7, ht7⟩ := h7; have HU7 := Lib.hid (HU6.out.belowI hB7); have HT7 := Lib.hid ht7; have HBX := Lib.hid (HBX.out.trans (hB7.mono HBX.out.size)); clear hB7 ht7; obtain ⟨x0, x1, x2⟩ := tri (box_keep HBXA.out HBX.out); obtain ⟨y0, y1, y2⟩ := tri (box_keep HBXB.out HBX.out)) | (go_at_call 14; (with_reducible refine (HSM.out _ _ _ HU7.out HT7.out).mono ?_); rintro e8 w8 ⟨rfl, hB8⟩; have HBX := Lib.hid (HBX.out.trans (hB8.mono HBX.out.size)); clear hB8; obtain ⟨x0, x1, x2⟩ := tri (box_keep HBXA.out HBX.out); obtain ⟨y0, y1, y2⟩ := tri (box_keep HBXB.out HBX.out)) | (go_at_call 11; (with_reducible refine (HPU5.out _ HBX.out).mono ?_); rintro e9 w9 ⟨rfl, hB9⟩; have HBX := Lib.hid (HBX.out.trans (hB9.mono HBX.out.size)); clear hB9; obtain ⟨x0, x1, x2⟩ := tri (box_keep HBXA.out HBX.out); obtain ⟨y0, y1, y2⟩ := tri (box_keep HBXB.out HBX.out)))
        all_goals
          go_wp2
          go_ret
          exact ⟨rfl, HB5.out.trans (HBX.out.mono HB5.out.size)⟩
      · have hd2 : decide ((20000 : Int) < (b.length : Int)) = true := decide_eq_true (by omega)
        clear hlen HF2 HPU
        go_wp2
        go_ret
        exact ⟨rfl, HB3.out⟩
  · have hd : decide ((600 : Int) < (a0.size : Int)) = true := decide_eq_true (by omega)
    go_enter Tryz.func4, Tryz.ntmps4
    go_wp2_with fail
    refine (awake_calls _ HT.out).mono ?_
    rintro e w1 ⟨rfl, hB1⟩
    have HT1 := Lib.hid (HT.out.below hB1)
    have HB1 := Lib.hid hB1
    clear hB1
    go_wp2_with fail
    refine (awake_calls _ HT1.out).mono ?_
    rintro e w2 ⟨rfl, hB2⟩
    go_wp2
    go_ret
    exact ⟨rfl, HB1.out.trans (hB2.mono HB1.out.size)⟩


set_option maxRecDepth 100000 in
theorem lifted (os : Os) (started : os.Started) (H : Type) (enc : TypeId × Value → H) :
    ReturnsInHanded {} Tryz.checked os 4 .any (fun w args => (Rows.printBackSpec.pre enc Tryz.prog Tryz.f4 [] false w args ∧ laidMetH Tryz.prog laidP w) ∧ sizedMet enc Tryz.prog Tryz.f4 (OpenSpec.ofChange Rows.printBackSpec) false w args)
      (Rows.printBackSpec.post enc Tryz.prog Tryz.f4 false true false false) := by
  refine returnsInHanded_of_change_and (C := Tryz.checked) (X := fun w _ => laidMetH Tryz.prog laidP w) (fun _ _ _ hh h => h.of_heap hh) Tryz.own started (by kernel_rfl) Tryz.func4
    (ChangeSpec.witness_shaped (enc := enc) (C := Tryz.checked) (os := os) (X := fun w _ => laidMetH Tryz.prog laidP w) false (World.doorLaid Tryz.prog 223 os) #[.string ByteArray.empty] 8 rfl (World.shaped_of_RefB (by kernel_rfl) (by kernel_rfl)) (by kernel_rfl) (by kernel_rfl) (by kernel_rfl) (door_met os _)) ?_
  intro W base args ds gs before hval0 hW hcnd hsz hL _
  have hval : ∀ (j : Nat) t v, Tryz.f4.params[j]? = some t → args[j]? = some v → Value.okWide Tryz.prog W .any base t v := hval0
  have hW' := hW
  obtain ⟨p, q, hA0, hV, rfl, hfz, hnd⟩ := hW
  have hA : DataW.TrodAll enc Tryz.prog W 0 (fun _ => true) true Tryz.f4.params.toList args.toList ds p := hA0
  rw [Tryz.params4] at hA hval
  obtain ⟨v0, vs0, d0, ds0, p0, q0, hargs, rfl, rfl, h0, r0⟩ := trodAll_cons hA
  obtain ⟨rfl, rfl, rfl⟩ := trodAll_nil r0
  obtain rfl : args = #[v0] := by cases args; simp_all
  obtain ⟨rfl, rfl⟩ := trodVars_none hV
  obtain ⟨a0, rfl, rfl, rfl, w0⟩ := open_string Tryz.underlying9 (hval 0 9 v0 rfl rfl) h0
  clear hA0 hval0
  simp only [List.append_nil] at hW'
  refine (walk a0 W (tabsP_of hL)).mono fun e W' ⟨he, hg⟩ => ?_
  subst he
  exact ⟨_, rfl, _, _, _, [], [], [], hW', trodAll_cons_mk (shut_bool Tryz.underlying4 _) trodAll_mk0, (trodAll_cons_mk (shut_string Tryz.underlying9 w0) trodAll_mk0), rfl, hg.frame _, fun h => by cases h⟩

theorem over : Rows.PrintBackSaid :=
  OpenClaim.holds_of_wide 4 Tryz.f4 rfl rfl rfl rfl rfl rfl rfl ⟨rfl, rfl, rfl, rfl, rfl⟩ rfl rfl rfl rfl rfl (by kernel_rfl) Tryz.func4 (by kernel_rfl)
    (of_decide_eq_true (by kernel_rfl)) (by unfold Func.isWrapper; first | (rw [if_pos (by decide +kernel)]; kernel_rfl) | (rw [if_neg (by decide +kernel)]; exact ⟨rfl, rfl⟩))
    (fun os started H enc _ => lifted os started H enc)

theorem proved : Rows.PrintBackCardSaid :=
  Claim7.holds_tied_plain_at .later [] [.data, .data, .data, .sentinel, .sentinel, .widerDeep, .data, .data] true (true, "1fee94d94e8fce987835c372c9b7de755bd218681043bb13ce87bbad322ac513") true
    over (fun _ h => by cases h) (by kernel_rfl) (fun _ h => by cases h) printBack_row_tie rfl ⟨rfl, rfl⟩ (by kernel_rfl) rfl
    (fun f fn hf hfn => by
      obtain rfl : f = 4 := Option.some.inj ((show Tryz.prog.funcNamed Rows.printBackRow.func = some 4 by kernel_rfl).symm.trans hf) |>.symm
      obtain rfl : fn = Tryz.f4 := (Option.some.inj (Tryz.func4.symm.trans hfn)).symm
      exact ⟨by kernel_rfl, fun j t ht => by
        rw [Tryz.params4] at ht
        rcases j with _ | j
        · obtain rfl : t = 9 := by simpa using ht.symm
          exact (show Tryz.prog.wantsStandIn 9 = false by kernel_rfl)
        simp at ht⟩)
    (by kernel_rfl)
#print axioms proved
end Go.Proofs.YtdeflloidhbpmaaGreatDoor.printBack
