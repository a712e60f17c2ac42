/-
  Operands: signs ahead, brackets, names, calls, places, numbers, words.
-/
import Derived.Test.YtdeflloidhbpmaaGreatDoorK10
import Derived.Test.YtdeflloidhbpmaaGreatDoorK11
namespace Go.Proofs.YtdeflloidhbpmaaGreatDoor
open Go.RowKit

theorem PartC.run {C : Cx} {j : Nat} {dep : Int} {part : Ps Nat} (h : PartC C j dep part) (S : Nat → Prop) (d : Nat) (s : Sg) (w : World) (hp : PAt C S d s w) : Calls Tryz.prog j #[.pointer (some ⟨C.q, 0, none⟩), .int .i64 dep] w (OutP C S d natV (part s) w) := h.2 S d s w hp
/-- put, of what has no list. -/
theorem put0_calls (C : Cx) (S : Nat → Prop) (d : Nat) (s : Sg) (lo : Nat) (x : Ex) (hx : x.lo = 0 ∧ x.hi = 0) (hl : x.list = []) (w : World) (h : PAt C S (d + 1) s w) :
    Calls Tryz.prog 172 #[.pointer (some ⟨C.q, 0, none⟩), .int .i64 (lo : Int), .agg #[.int .i64 (x.kind : Int), .int .i64 0, .int .i64 0, .int .i64 (x.num : Int), .string (bs x.name), .string (bs x.op), .int .i64 (x.a : Int), .int .i64 (x.b : Int), .slice none 0 0]] w (OutP C S d natV (putE C.T lo x s) w) :=
  put_calls C S d s lo x (.slice none 0 0) hx w (h.sub fun _ hb => with_nil hb) (by rw [hl]; exact rwAt_nil _ _)

set_option maxRecDepth 100000 in
set_option maxHeartbeats 1000000 in
theorem call1_calls (C : Cx) (S : Nat → Prop) (d : Nat) (s : Sg) (b1 b2 : Nat) (dep : Int) (h0 : 0 ≤ dep) (h1 : dep ≤ 64) (ex : Ps Nat) (hp : PartC C 156 (dep + 1) ex) (w : World) (c1 : w.cell? ⟨b1, 0, none⟩ = some (.pointer (some ⟨C.q, 0, none⟩))) (c2 : w.cell? ⟨b2, 0, none⟩ = some (.int .i64 dep)) (h : PAt C S d s w) :
    Calls Tryz.prog 171 #[.pointer (some ⟨b1, 0, none⟩), .pointer (some ⟨b2, 0, none⟩)] w (OutP C S d natV (ex s) w) := by
  have HP := Lib.hid (hp.run S d s w h)
  generalize ex s = r at HP
  clear h hp
  go_enter Tryz.func171, Tryz.ntmps171
  go_wp2_with fail
  refine HP.out.mono ?_
  intro e w1 h1
  have H1 := Lib.hid h1
  cases r with
  | no c i =>
    obtain rfl := h1.1
    go_wp2
    exact ⟨rfl, H1.out⟩
  | ok a s1 =>
    obtain ⟨rfl, _, _⟩ := h1
    unfold natV at H1 ⊢
    go_wp2
    go_ret
    exact H1.out

theorem boxes (w : World) (a b : Value) (t u : TypeId) : ((w.alloc (.cells #[a] t)).alloc (.cells #[b] u)).cell? ⟨w.heap.size, 0, none⟩ = some a ∧ ((w.alloc (.cells #[a] t)).alloc (.cells #[b] u)).cell? ⟨w.heap.size + 1, 0, none⟩ = some b := by
  have h1 := heap_one w #[a] t
  have h2 := Below.heap_alloc (w.alloc (.cells #[a] t)) (.cells #[b] u) w.heap.size (by simp)
  have h3 := heap_two w (.cells #[a] t) #[b] u
  rw [h1] at h2
  generalize (w.alloc (.cells #[a] t)).alloc (.cells #[b] u) = W at h2 h3
  constructor
  · simp [World.cell?, h2]
  · simp [World.cell?, h3]

set_option maxRecDepth 100000 in
set_option maxHeartbeats 1000000 in
theorem call_calls (C : Cx) (S : Nat → Prop) (d : Nat) (s : Sg) (lo : Nat) (name : List UInt8) (dep : Int) (h0 : 0 ≤ dep) (h1 : dep ≤ 64) (sub : Ps Nat) (hsub : Fine C.T 1 sub) (hp : PartC C 156 (dep + 1) (expressionM C.T sub)) (w : World) (h : PAt C S d s w) :
    Calls Tryz.prog 165 #[.pointer (some ⟨C.q, 0, none⟩), .int .i64 (lo : Int), .string (bs name), .int .i64 dep] w (OutP C S (d + 1) natV (callM C.T sub lo name s) w) := by
  have hmf : ∀ (fn : Fn) (first cap : Array Value) (w : World), (Instr.makeFunc fn first cap).run Tryz.prog w = .ok (.func fn first cap) w := fun _ _ _ _ => rfl
  obtain ⟨R, hR⟩ : ∃ R, callM C.T sub lo name s = R := ⟨_, rfl⟩
  rw [hR]
  have HR := Lib.hid hR
  unfold callM at HR
  have hbx := boxes w (.pointer (some ⟨C.q, 0, none⟩)) (.int .i64 dep) 74 3
  have c1 := hbx.1
  have c2 := hbx.2
  have HW := Lib.hid (below_two w (.cells #[.pointer (some ⟨C.q, 0, none⟩)] 74) (.cells #[.int .i64 dep] 3))
  have hK0 := Lib.hid (Keep.of h HW.out)
  have HL := Lib.hid (listI_calls C (fun b => (S b ∨ b = w.heap.size) ∨ b = (w.alloc (.cells #[.pointer (some ⟨C.q, 0, none⟩)] 74)).heap.size) d s 171 #[.pointer (some ⟨w.heap.size, 0, none⟩), .pointer (some ⟨w.heap.size + 1, 0, none⟩)] (expressionM C.T sub) _ ((h.allocS (.cells #[.pointer (some ⟨C.q, 0, none⟩)] 74)).allocS (.cells #[.int .i64 dep] 3))
    ⟨fun args w => by simp [go_sem], fun S' d' s' w' hS hk h' => call1_calls C S' d' s' w.heap.size (w.heap.size + 1) dep h0 h1 _ hp w' ((World.cell?_of_block (a := ⟨w.heap.size, 0, none⟩) (hk.kept _ (.inl (.inr rfl)))).trans c1) ((World.cell?_of_block (a := ⟨w.heap.size + 1, 0, none⟩) (hk.kept _ (.inr (by simp)))).trans c2) h'⟩ (fine_expression h.tk hsub))
  have H := Lib.hid h
  clear h hR hbx hp hsub
  go_enter Tryz.func165, Tryz.ntmps165
  go_wp2_with fail
  refine HL.out.mono ?_
  intro e w1 h1
  generalize hr : listM C.T (expressionM C.T sub) s = r at h1
  cases r with
  | no c i =>
    obtain rfl : R = .no c i := HR.out.symm.trans (bd_no hr)
    clear hr
    obtain rfl := h1.1
    go_wp2
    exact ⟨rfl, h1.toP hK0.out fun _ h => .inl (.inl h)⟩
  | ok l s1 =>
    have HR1 := Lib.hid ((bd_ok hr).symm.trans HR.out)
    clear hr HR HL
    obtain ⟨v, rfl, hl, hp, hk⟩ := h1
    have c3 := (World.cell?_of_block (a := ⟨w.heap.size, 0, none⟩) (hk.kept _ (.inl (.inr rfl)))).trans c1
    have K1 := Lib.hid (hK0.out.trans (hk.sub (S' := S) fun _ h => .inl (.inl h)))
    have HU := Lib.hid (put_calls C S (d + 1) s1 lo { kind := 6, name := name, list := l } v ⟨rfl, rfl⟩ w1 (hp.sub fun b hb => hb.imp (fun h => .inl (.inl h)) id) (hl.keep (Nat.le_refl _) fun g _ hf _ => ⟨⟨hf.1, fun e => hf.2 (.inl (.inl e))⟩, rfl⟩))
    obtain ⟨A0, c0, rfl⟩ : ∃ A c, v = .slice A (intsV l).length c := by obtain ⟨A, c, e, _⟩ := hl; exact ⟨A, _, e⟩
    clear hl hp hk c1 c2
    go_wp2_with fail
    refine HU.out.mono ?_
    intro e w2 h2
    generalize hr : putE C.T lo { kind := 6, name := name, list := l } s1 = r at h2
    obtain rfl : R = r := HR1.out.symm.trans hr
    cases R with
    | no c i => cases hr
    | ok a s2 =>
      clear hr
      obtain ⟨rfl, h3, h4⟩ := h2
      unfold natV
      go_wp2
      go_ret
      exact ⟨rfl, h3, K1.out.trans h4⟩

set_option maxRecDepth 100000 in
set_option maxHeartbeats 1000000 in
theorem index_calls' (C : Cx) (S : Nat → Prop) (d : Nat) (s : Sg) (dep : Int) (ex : Ps Nat) (hp : PartC C 156 dep ex) (w : World) (h : PAt C S d s w) : Calls Tryz.prog 166 #[.pointer (some ⟨C.q, 0, none⟩), .int .i64 dep] w (OutP C S (d + 2) natV (indexM C.T ex s) w) := by
  obtain ⟨R, hR⟩ : ∃ R, indexM C.T ex s = R := ⟨_, rfl⟩
  rw [hR]
  have HR := Lib.hid hR
  unfold indexM at HR
  have H := Lib.hid h
  clear h hR
  have HP := Lib.hid hp
  clear hp
  go_enter Tryz.func166, Tryz.ntmps166
  go_wp2_with fail
  refine (takeL_calls C S d s [[91]] _ rfl 1 rfl (by decide) (by decide) w H.out _ rfl).mono ?_
  intro e w1 h1
  generalize hr : takeP C.T [[91]] s = r at h1
  cases r with
  | no c i =>
    obtain rfl : R = .no c i := HR.out.symm.trans (bd_no hr)
    clear hr
    obtain rfl := h1.1
    go_wp2
    exact ⟨rfl, h1.no (Keep.refl C S w) fun _ h => h⟩
  | ok o s1 =>
    have HR1 := Lib.hid ((bd_ok hr).symm.trans HR.out)
    clear hr HR
    obtain ⟨rfl, hp, hk⟩ := h1
    have P1 := Lib.hid hp
    have K1 := Lib.hid ((Keep.refl C S w).trans hk)
    clear hp hk
    unfold strV
    go_wp2_with fail
    refine (HP.out.run S (d + 1) s1 _ P1.out).mono ?_
    intro e w2 h2
    generalize hr : ex s1 = r at h2
    cases r with
    | no c i =>
      obtain rfl : R = .no c i := HR1.out.symm.trans (bd_no hr)
      clear hr
      obtain rfl := h2.1
      go_wp2
      exact ⟨rfl, h2.no K1.out fun _ h => h⟩
    | ok a s2 =>
      have HR2 := Lib.hid ((bd_ok hr).symm.trans HR1.out)
      clear hr HR1
      obtain ⟨rfl, hp, hk⟩ := h2
      have P2 := Lib.hid hp
      have K2 := Lib.hid (K1.out.trans hk)
      clear hp hk
      unfold natV
      go_wp2_with fail
      refine (takeL_calls C S (d + 1) s2 [[93]] _ rfl 1 rfl (by decide) (by decide) w2 P2.out _ rfl).mono ?_
      intro e w3 h3
      generalize hr : takeP C.T [[93]] s2 = r at h3
      cases r with
      | no c i =>
        obtain rfl : R = .no c i := HR2.out.symm.trans (bd_no hr)
        clear hr
        obtain rfl := h3.1
        go_wp2
        exact ⟨rfl, h3.no K2.out fun _ h => h⟩
      | ok o2 s3 =>
        have HR3 := Lib.hid ((bd_ok hr).symm.trans HR2.out)
        clear hr HR2
        obtain ⟨rfl, hp, hk⟩ := h3
        have P3 := Lib.hid hp
        have K3 := Lib.hid (K2.out.trans hk)
        clear hp hk
        unfold strV
        obtain rfl : R = .ok a s3 := HR3.out.symm
        go_wp2
        go_ret
        exact ⟨rfl, P3.out.less (by omega), K3.out⟩

theorem tx_eq {o l : List UInt8} (h : o = l) : ((bs o).toList == l) = true := by rw [h, ByteArray.toList_eq, bs_toList]; exact beq_self_eq_true _
theorem tx_ne {o l : List UInt8} (h : o ≠ l) : ((bs o).toList == l) = false := by rw [ByteArray.toList_eq, bs_toList]; exact beq_eq_false_iff_ne.2 h
set_option maxRecDepth 100000 in
set_option maxHeartbeats 1000000 in
theorem word_calls (C : Cx) (S : Nat → Prop) (d : Nat) (s : Sg) (w : World) (h : PAt C S d s w) : Calls Tryz.prog 188 #[.pointer (some ⟨C.q, 0, none⟩)] w (OutP C S d natV (wordM C.T s) w) := by
  obtain ⟨R, hR⟩ : ∃ R, wordM C.T s = R := ⟨_, rfl⟩
  rw [hR]
  have HR := Lib.hid hR
  unfold wordM at HR
  have H := Lib.hid h
  clear h hR
  generalize hlo : (cur C.T s).lo = lo at HR
  go_enter Tryz.func188, Tryz.ntmps188
  have hfr := Lib.hid (from_calls C S d s w H.out)
  rw [hlo] at hfr
  clear hlo
  go_wp2_with fail
  refine (hfr.out).mono ?_
  rintro e w1 ⟨rfl, hB⟩
  have P1 := Lib.hid (H.out.below hB)
  have K1 := Lib.hid ((Keep.refl C S w).trans (H.out.belowK hB))
  clear hB
  go_wp2_with fail
  refine (takeL_calls C S d s [kTrue, kFalse, kRead] _ rfl 3 rfl (by decide) (by decide) w1 P1.out _ rfl).mono ?_
  intro e w2 h2
  generalize hr : takeP C.T [kTrue, kFalse, kRead] s = r at h2
  cases r with
  | no c i =>
    obtain rfl : R = .no c i := HR.out.symm.trans (bd_no hr)
    clear hr
    obtain rfl := h2.1
    go_wp2
    exact ⟨rfl, h2.no K1.out fun _ h => h⟩
  | ok o s2 =>
    have HR2 := Lib.hid ((bd_ok hr).symm.trans HR.out)
    clear hr HR
    obtain ⟨rfl, hp, hk⟩ := h2
    have P2 := Lib.hid hp
    have K2 := Lib.hid (K1.out.trans hk)
    clear hp hk
    unfold strV
    by_cases e1 : o = kTrue
    · have q1 : ((bs o).toList == [116, 114, 117, 101]) = true := tx_eq e1
      have HR9 := Lib.hid HR2.out
      rw [if_pos e1] at HR9
      clear e1 HR2
      go_wp2_with fail
      refine (put0_calls C S d s2 lo { kind := 2 } ⟨rfl, rfl⟩ rfl w2 P2.out).mono ?_
      intro e w3 h3
      generalize hr : putE C.T lo { kind := 2 } s2 = r at h3
      cases r with
      | no c i =>
        obtain rfl : R = .no c i := HR9.out.symm.trans (hr)
        clear hr
        obtain rfl := h3.1
        go_wp2
        exact ⟨rfl, h3.no K2.out fun _ h => h⟩
      | ok a s3 =>
        obtain rfl : R = .ok a s3 := HR9.out.symm.trans hr
        clear hr HR9
        obtain ⟨rfl, hp, hk⟩ := h3
        have P3 := Lib.hid hp
        have K3 := Lib.hid (K2.out.trans hk)
        clear hp hk
        unfold natV
        go_wp2
        go_ret
        exact ⟨rfl, P3.out.less (by omega), K3.out⟩
    · have q1 : ((bs o).toList == [116, 114, 117, 101]) = false := tx_ne e1
      by_cases e2 : o = kFalse
      · have q2 : ((bs o).toList == [102, 97, 108, 115, 101]) = true := tx_eq e2
        have HR9 := Lib.hid HR2.out
        rw [if_neg e1, if_pos e2] at HR9
        clear e1 e2 HR2
        go_wp2_with fail
        refine (put0_calls C S d s2 lo { kind := 3 } ⟨rfl, rfl⟩ rfl w2 P2.out).mono ?_
        intro e w3 h3
        generalize hr : putE C.T lo { kind := 3 } s2 = r at h3
        cases r with
        | no c i =>
          obtain rfl : R = .no c i := HR9.out.symm.trans (hr)
          clear hr
          obtain rfl := h3.1
          go_wp2
          exact ⟨rfl, h3.no K2.out fun _ h => h⟩
        | ok a s3 =>
          obtain rfl : R = .ok a s3 := HR9.out.symm.trans hr
          clear hr HR9
          obtain ⟨rfl, hp, hk⟩ := h3
          have P3 := Lib.hid hp
          have K3 := Lib.hid (K2.out.trans hk)
          clear hp hk
          unfold natV
          go_wp2
          go_ret
          exact ⟨rfl, P3.out.less (by omega), K3.out⟩
      · have q2 : ((bs o).toList == [102, 97, 108, 115, 101]) = false := tx_ne e2
        have HR9 := Lib.hid HR2.out
        rw [if_neg e1, if_neg e2] at HR9
        clear e1 e2 HR2
        go_wp2_with fail
        refine (put0_calls C S d s2 lo { kind := 7 } ⟨rfl, rfl⟩ rfl w2 P2.out).mono ?_
        intro e w3 h3
        generalize hr : putE C.T lo { kind := 7 } s2 = r at h3
        cases r with
        | no c i =>
          obtain rfl : R = .no c i := HR9.out.symm.trans (hr)
          clear hr
          obtain rfl := h3.1
          go_wp2
          exact ⟨rfl, h3.no K2.out fun _ h => h⟩
        | ok a s3 =>
          obtain rfl : R = .ok a s3 := HR9.out.symm.trans hr
          clear hr HR9
          obtain ⟨rfl, hp, hk⟩ := h3
          have P3 := Lib.hid hp
          have K3 := Lib.hid (K2.out.trans hk)
          clear hp hk
          unfold natV
          go_wp2
          go_ret
          exact ⟨rfl, P3.out.less (by omega), K3.out⟩

set_option maxRecDepth 100000 in
set_option maxHeartbeats 1000000 in
theorem reference_calls (C : Cx) (S : Nat → Prop) (d : Nat) (s : Sg) (dep : Int) (h0 : 0 ≤ dep) (h1 : dep ≤ 64) (sub : Ps Nat) (hsub : Fine C.T 1 sub) (hp : PartC C 156 (dep + 1) (expressionM C.T sub)) (w : World) (h : PAt C S d s w) : Calls Tryz.prog 187 #[.pointer (some ⟨C.q, 0, none⟩), .int .i64 dep] w (OutP C S d natV (referenceM C.T sub s) w) := by
  obtain ⟨R, hR⟩ : ∃ R, referenceM C.T sub s = R := ⟨_, rfl⟩
  rw [hR]
  have HR := Lib.hid hR
  unfold referenceM at HR
  have H := Lib.hid h
  clear h hR
  generalize hlo : (cur C.T s).lo = lo at HR
  have HP := Lib.hid hp
  have HSB := Lib.hid hsub
  clear hp hsub
  go_enter Tryz.func187, Tryz.ntmps187
  have hfr := Lib.hid (from_calls C S d s w H.out)
  rw [hlo] at hfr
  clear hlo
  go_wp2_with fail
  refine (hfr.out).mono ?_
  rintro e w1 ⟨rfl, hB⟩
  have P1 := Lib.hid (H.out.below hB)
  have K1 := Lib.hid ((Keep.refl C S w).trans (H.out.belowK hB))
  clear hB
  go_wp2_with fail
  refine (takeA_calls C S d s 1 (by decide) w1 P1.out).mono ?_
  intro e w2 h2
  generalize hr : takeK C.T 1 s = r at h2
  cases r with
  | no c i =>
    obtain rfl : R = .no c i := HR.out.symm.trans (bd_no hr)
    clear hr
    obtain rfl := h2.1
    go_wp2
    exact ⟨rfl, h2.no K1.out fun _ h => h⟩
  | ok name s2 =>
    have HR2 := Lib.hid ((bd_ok hr).symm.trans HR.out)
    clear hr HR
    obtain ⟨rfl, hp, hk⟩ := h2
    have P2 := Lib.hid hp
    have K2 := Lib.hid (K1.out.trans hk)
    clear hp hk
    unfold strV
    have his := Lib.hid (isL_calls C S (d + 1) s2 [[40]] _ rfl 1 rfl (by decide) w2 P2.out _ rfl)
    cases hb : isP C.T [[40]] s2
    · rw [hb] at his
      have HRt3 := Lib.hid ((ifF hb).symm.trans HR2.out)
      clear hb HR2
      go_wp2_with fail
      refine (his.out).mono ?_
      rintro e w3 ⟨rfl, hB⟩
      have P3 := Lib.hid (P2.out.below hB)
      have K3 := Lib.hid (K2.out.trans (P2.out.belowK hB))
      clear hB
      have his := Lib.hid (isL_calls C S (d + 1) s2 [[91]] _ rfl 1 rfl (by decide) w3 P3.out _ rfl)
      cases hb : isP C.T [[91]] s2
      · rw [hb] at his
        have HRt4 := Lib.hid ((ifF hb).symm.trans HRt3.out)
        clear hb HRt3
        go_wp2_with fail
        refine (his.out).mono ?_
        rintro e w4 ⟨rfl, hB⟩
        have P4 := Lib.hid (P3.out.below hB)
        have K4 := Lib.hid (K3.out.trans (P3.out.belowK hB))
        clear hB
        go_wp2_with fail
        refine (put0_calls C S d s2 lo { kind := 4, name := name } ⟨rfl, rfl⟩ rfl w4 P4.out).mono ?_
        intro e w5 h5
        generalize hr : putE C.T lo { kind := 4, name := name } s2 = r at h5
        cases r with
        | no c i =>
          obtain rfl : R = .no c i := HRt4.out.symm.trans (hr)
          clear hr
          obtain rfl := h5.1
          go_wp2
          exact ⟨rfl, h5.no K4.out fun _ h => h⟩
        | ok b s5 =>
          obtain rfl : R = .ok b s5 := HRt4.out.symm.trans hr
          clear hr HRt4
          obtain ⟨rfl, hp, hk⟩ := h5
          have P5 := Lib.hid hp
          have K5 := Lib.hid (K4.out.trans hk)
          clear hp hk
          unfold natV
          go_wp2
          go_ret
          exact ⟨rfl, P5.out.less (by omega), K5.out⟩
      · rw [hb] at his
        have HRt4 := Lib.hid ((ifT hb).symm.trans HRt3.out)
        have hbT := Lib.hid hb
        clear hb HRt3
        go_wp2_with fail
        refine (his.out).mono ?_
        rintro e w4 ⟨rfl, hB⟩
        have P4 := Lib.hid (P3.out.below hB)
        have K4 := Lib.hid (K3.out.trans (P3.out.belowK hB))
        clear hB
        go_wp2_with fail
        refine (index_calls' C S (d + 1) s2 (dep + 1) _ HP.out w4 P4.out).mono ?_
        intro e w5 h5
        generalize hr : indexM C.T (expressionM C.T sub) s2 = r at h5
        cases r with
        | no c i =>
          obtain rfl : R = .no c i := HRt4.out.symm.trans (bd_no hr)
          clear hr
          obtain rfl := h5.1
          go_wp2
          exact ⟨rfl, h5.no K4.out fun _ h => h⟩
        | ok a s5 =>
          have HR5 := Lib.hid ((bd_ok hr).symm.trans HRt4.out)
          clear hr HRt4
          obtain ⟨rfl, hp, hk⟩ := h5
          have P5 := Lib.hid hp
          have K5 := Lib.hid (K4.out.trans hk)
          clear hp hk
          unfold natV
          go_wp2_with fail
          refine (put0_calls C S (d + 1 + 1) s5 lo { kind := 5, name := name, a := a } ⟨rfl, rfl⟩ rfl w5 P5.out).mono ?_
          intro e w6 h6
          generalize hr : putE C.T lo { kind := 5, name := name, a := a } s5 = r at h6
          cases r with
          | no c i =>
            obtain rfl : R = .no c i := HR5.out.symm.trans (hr)
            clear hr
            obtain rfl := h6.1
            go_wp2
            exact ⟨rfl, h6.no K5.out fun _ h => h⟩
          | ok b s6 =>
            obtain rfl : R = .ok b s6 := HR5.out.symm.trans hr
            clear hr HR5
            obtain ⟨rfl, hp, hk⟩ := h6
            have P6 := Lib.hid hp
            have K6 := Lib.hid (K5.out.trans hk)
            clear hp hk
            unfold natV
            go_wp2
            go_ret
            exact ⟨rfl, P6.out.less (by omega), K6.out⟩
    · rw [hb] at his
      have HRt3 := Lib.hid ((ifT hb).symm.trans HR2.out)
      have hbT := Lib.hid hb
      clear hb HR2
      go_wp2_with fail
      refine (his.out).mono ?_
      rintro e w3 ⟨rfl, hB⟩
      have P3 := Lib.hid (P2.out.below hB)
      have K3 := Lib.hid (K2.out.trans (P2.out.belowK hB))
      clear hB
      go_wp2_with fail
      refine (call_calls C S (d + 1) s2 lo name dep h0 h1 sub HSB.out HP.out w3 P3.out).mono ?_
      intro e w4 h4
      generalize hr : callM C.T sub lo name s2 = r at h4
      cases r with
      | no c i =>
        obtain rfl : R = .no c i := HRt3.out.symm.trans (hr)
        clear hr
        obtain rfl := h4.1
        go_wp2
        exact ⟨rfl, h4.no K3.out fun _ h => h⟩
      | ok a s4 =>
        obtain rfl : R = .ok a s4 := HRt3.out.symm.trans hr
        clear hr HRt3
        obtain ⟨rfl, hp, hk⟩ := h4
        have P4 := Lib.hid hp
        have K4 := Lib.hid (K3.out.trans hk)
        clear hp hk
        unfold natV
        go_wp2
        go_ret
        exact ⟨rfl, P4.out.less (by omega), K4.out⟩

set_option maxRecDepth 100000 in
set_option maxHeartbeats 4000000 in
theorem operand_calls (C : Cx) (S : Nat → Prop) (d : Nat) (s : Sg) (dep : Int) (h0 : 0 ≤ dep) (h1 : dep ≤ 64) (sub : Ps Nat) (hsub : Fine C.T 1 sub) (hop : PartC C 184 (dep + 1) sub) (hp : PartC C 156 (dep + 1) (expressionM C.T sub)) (w : World) (h : PAt C S d s w) : Calls Tryz.prog 184 #[.pointer (some ⟨C.q, 0, none⟩), .int .i64 dep] w (OutP C S d natV (operandS C.T sub s) w) := by
  obtain ⟨R, hR⟩ : ∃ R, operandS C.T sub s = R := ⟨_, rfl⟩
  rw [hR]
  have HR := Lib.hid hR
  unfold operandS at HR
  have H := Lib.hid h
  clear h hR
  generalize hlo : (cur C.T s).lo = lo at HR
  have HP := Lib.hid hp
  have HO := Lib.hid hop
  have HSB := Lib.hid hsub
  clear hp hsub hop
  go_enter Tryz.func184, Tryz.ntmps184
  have hwi := Lib.hid (within_ok C dep h1 w)
  go_wp2_with fail
  refine hwi.out.mono ?_
  rintro e w0 ⟨rfl, rfl⟩
  have hfr := Lib.hid (from_calls C S d s w H.out)
  rw [hlo] at hfr
  clear hlo
  go_wp2_with fail
  refine (hfr.out).mono ?_
  rintro e w1 ⟨rfl, hB⟩
  have P1 := Lib.hid (H.out.below hB)
  have K1 := Lib.hid ((Keep.refl C S w).trans (H.out.belowK hB))
  clear hB
  have his := Lib.hid (isL_calls C S d s [[45], [33]] _ rfl 2 rfl (by decide) w1 P1.out _ rfl)
  cases hb : isP C.T [[45], [33]] s
  · rw [hb] at his
    have HRt2 := Lib.hid ((ifF hb).symm.trans HR.out)
    clear hb HR
    go_wp2_with fail
    refine (his.out).mono ?_
    rintro e w2 ⟨rfl, hB⟩
    have P2 := Lib.hid (P1.out.below hB)
    have K2 := Lib.hid (K1.out.trans (P1.out.belowK hB))
    clear hB
    have his := Lib.hid (isL_calls C S d s [[40]] _ rfl 1 rfl (by decide) w2 P2.out _ rfl)
    cases hb : isP C.T [[40]] s
    · rw [hb] at his
      have HRt3 := Lib.hid ((ifF hb).symm.trans HRt2.out)
      clear hb HRt2
      go_wp2_with fail
      refine (his.out).mono ?_
      rintro e w3 ⟨rfl, hB⟩
      have P3 := Lib.hid (P2.out.below hB)
      have K3 := Lib.hid (K2.out.trans (P2.out.belowK hB))
      clear hB
      have his := Lib.hid (isA_calls C S d s 1 w3 P3.out)
      cases hb : isK C.T 1 s
      · rw [hb] at his
        have HRt4 := Lib.hid ((ifF hb).symm.trans HRt3.out)
        clear hb HRt3
        go_wp2_with fail
        refine (his.out).mono ?_
        rintro e w4 ⟨rfl, hB⟩
        have P4 := Lib.hid (P3.out.below hB)
        have K4 := Lib.hid (K3.out.trans (P3.out.belowK hB))
        clear hB
        have his := Lib.hid (isA_calls C S d s 2 w4 P4.out)
        cases hb : isK C.T 2 s
        · rw [hb] at his
          have HRt5 := Lib.hid ((ifF hb).symm.trans HRt4.out)
          clear hb HRt4
          go_wp2_with fail
          refine (his.out).mono ?_
          rintro e w5 ⟨rfl, hB⟩
          have P5 := Lib.hid (P4.out.below hB)
          have K5 := Lib.hid (K4.out.trans (P4.out.belowK hB))
          clear hB
          go_wp2_with fail
          refine (word_calls C S d s w5 P5.out).mono ?_
          intro e w6 h6
          generalize hr : wordM C.T s = r at h6
          cases r with
          | no c i =>
            obtain rfl : R = .no c i := HRt5.out.symm.trans (hr)
            clear hr
            obtain rfl := h6.1
            go_wp2
            exact ⟨rfl, h6.no K5.out fun _ h => h⟩
          | ok a s6 =>
            obtain rfl : R = .ok a s6 := HRt5.out.symm.trans hr
            clear hr HRt5
            obtain ⟨rfl, hp, hk⟩ := h6
            have P6 := Lib.hid hp
            have K6 := Lib.hid (K5.out.trans hk)
            clear hp hk
            unfold natV
            go_wp2
            go_ret
            exact ⟨rfl, P6.out.less (by omega), K6.out⟩
        · rw [hb] at his
          have HRt5 := Lib.hid ((ifT hb).symm.trans HRt4.out)
          have hbT := Lib.hid hb
          clear hb HRt4
          go_wp2_with fail
          refine (his.out).mono ?_
          rintro e w5 ⟨rfl, hB⟩
          have P5 := Lib.hid (P4.out.below hB)
          have K5 := Lib.hid (K4.out.trans (P4.out.belowK hB))
          clear hB
          go_wp2_with fail
          refine (number_calls C S d s w5 P5.out).mono ?_
          intro e w6 h6
          generalize hr : numberM C.T s = r at h6
          cases r with
          | no c i =>
            obtain rfl : R = .no c i := HRt5.out.symm.trans (bd_no hr)
            clear hr
            obtain rfl := h6.1
            go_wp2
            exact ⟨rfl, h6.no K5.out fun _ h => h⟩
          | ok a s6 =>
            have HR6 := Lib.hid ((bd_ok hr).symm.trans HRt5.out)
            clear hr HRt5
            obtain ⟨rfl, hp, hk⟩ := h6
            have P6 := Lib.hid hp
            have K6 := Lib.hid (K5.out.trans hk)
            clear hp hk
            unfold natV
            go_wp2_with fail
            refine (put0_calls C S d s6 lo { kind := 1, num := a } ⟨rfl, rfl⟩ rfl w6 P6.out).mono ?_
            intro e w7 h7
            generalize hr : putE C.T lo { kind := 1, num := a } s6 = r at h7
            cases r with
            | no c i =>
              obtain rfl : R = .no c i := HR6.out.symm.trans (hr)
              clear hr
              obtain rfl := h7.1
              go_wp2
              exact ⟨rfl, h7.no K6.out fun _ h => h⟩
            | ok b s7 =>
              obtain rfl : R = .ok b s7 := HR6.out.symm.trans hr
              clear hr HR6
              obtain ⟨rfl, hp, hk⟩ := h7
              have P7 := Lib.hid hp
              have K7 := Lib.hid (K6.out.trans hk)
              clear hp hk
              unfold natV
              go_wp2
              go_ret
              exact ⟨rfl, P7.out.less (by omega), K7.out⟩
      · rw [hb] at his
        have HRt4 := Lib.hid ((ifT hb).symm.trans HRt3.out)
        have hbT := Lib.hid hb
        clear hb HRt3
        go_wp2_with fail
        refine (his.out).mono ?_
        rintro e w4 ⟨rfl, hB⟩
        have P4 := Lib.hid (P3.out.below hB)
        have K4 := Lib.hid (K3.out.trans (P3.out.belowK hB))
        clear hB
        go_wp2_with fail
        refine (reference_calls C S d s dep h0 h1 sub HSB.out HP.out w4 P4.out).mono ?_
        intro e w5 h5
        generalize hr : referenceM C.T sub s = r at h5
        cases r with
        | no c i =>
          obtain rfl : R = .no c i := HRt4.out.symm.trans (hr)
          clear hr
          obtain rfl := h5.1
          go_wp2
          exact ⟨rfl, h5.no K4.out fun _ h => h⟩
        | ok a s5 =>
          obtain rfl : R = .ok a s5 := HRt4.out.symm.trans hr
          clear hr HRt4
          obtain ⟨rfl, hp, hk⟩ := h5
          have P5 := Lib.hid hp
          have K5 := Lib.hid (K4.out.trans hk)
          clear hp hk
          unfold natV
          go_wp2
          go_ret
          exact ⟨rfl, P5.out.less (by omega), K5.out⟩
    · rw [hb] at his
      have HRt3 := Lib.hid ((ifT hb).symm.trans HRt2.out)
      have hbT := Lib.hid hb
      clear hb HRt2
      go_wp2_with fail
      refine (his.out).mono ?_
      rintro e w3 ⟨rfl, hB⟩
      have P3 := Lib.hid (P2.out.below hB)
      have K3 := Lib.hid (K2.out.trans (P2.out.belowK hB))
      clear hB
      go_wp2_with fail
      refine (takeL_calls C S d s [[40]] _ rfl 1 rfl (by decide) (by decide) w3 P3.out _ rfl).mono ?_
      intro e w4 h4
      generalize hr : takeP C.T [[40]] s = r at h4
      cases r with
      | no c i =>
        obtain rfl : R = .no c i := HRt3.out.symm.trans (bd_no hr)
        clear hr
        obtain rfl := h4.1
        go_wp2
        exact ⟨rfl, h4.no K3.out fun _ h => h⟩
      | ok o s4 =>
        have HR4 := Lib.hid ((bd_ok hr).symm.trans HRt3.out)
        clear hr HRt3
        obtain ⟨rfl, hp, hk⟩ := h4
        have P4 := Lib.hid hp
        have K4 := Lib.hid (K3.out.trans hk)
        clear hp hk
        unfold strV
        go_wp2_with fail
        refine (HP.out.run S (d + 1) s4 _ P4.out).mono ?_
        intro e w5 h5
        generalize hr : expressionM C.T sub s4 = r at h5
        cases r with
        | no c i =>
          obtain rfl : R = .no c i := HR4.out.symm.trans (bd_no hr)
          clear hr
          obtain rfl := h5.1
          go_wp2
          exact ⟨rfl, h5.no K4.out fun _ h => h⟩
        | ok a s5 =>
          have HR5 := Lib.hid ((bd_ok hr).symm.trans HR4.out)
          clear hr HR4
          obtain ⟨rfl, hp, hk⟩ := h5
          have P5 := Lib.hid hp
          have K5 := Lib.hid (K4.out.trans hk)
          clear hp hk
          unfold natV
          go_wp2_with fail
          refine (takeL_calls C S (d + 1) s5 [[41]] _ rfl 1 rfl (by decide) (by decide) w5 P5.out _ rfl).mono ?_
          intro e w6 h6
          generalize hr : takeP C.T [[41]] s5 = r at h6
          cases r with
          | no c i =>
            obtain rfl : R = .no c i := HR5.out.symm.trans (bd_no hr)
            clear hr
            obtain rfl := h6.1
            go_wp2
            exact ⟨rfl, h6.no K5.out fun _ h => h⟩
          | ok o2 s6 =>
            have HR6 := Lib.hid ((bd_ok hr).symm.trans HR5.out)
            clear hr HR5
            obtain ⟨rfl, hp, hk⟩ := h6
            have P6 := Lib.hid hp
            have K6 := Lib.hid (K5.out.trans hk)
            clear hp hk
            unfold strV
            obtain rfl : R = .ok a s6 := HR6.out.symm
            go_wp2
            go_ret
            exact ⟨rfl, P6.out.less (by omega), K6.out⟩
  · rw [hb] at his
    have HRt2 := Lib.hid ((ifT hb).symm.trans HR.out)
    have hbT := Lib.hid hb
    clear hb HR
    go_wp2_with fail
    refine (his.out).mono ?_
    rintro e w2 ⟨rfl, hB⟩
    have P2 := Lib.hid (P1.out.below hB)
    have K2 := Lib.hid (K1.out.trans (P1.out.belowK hB))
    clear hB
    go_wp2_with fail
    refine (next_calls C S d s w2 P2.out (P2.out.tk.isP (l := [[45], [33]]) (by decide) P2.out.lt hbT.out)).mono ?_
    intro e w3 h3
    generalize hr : nextP C.T s = r at h3
    cases r with
    | no c i =>
      obtain rfl : R = .no c i := HRt2.out.symm.trans (bd_no hr)
      clear hr
      obtain rfl := h3.1
      go_wp2
      exact ⟨rfl, h3.no K2.out fun _ h => h⟩
    | ok o s3 =>
      have HR3 := Lib.hid ((bd_ok hr).symm.trans HRt2.out)
      clear hr HRt2
      obtain ⟨rfl, hp, hk⟩ := h3
      have P3 := Lib.hid hp
      have K3 := Lib.hid (K2.out.trans hk)
      clear hp hk
      unfold strV
      go_wp2_with fail
      refine (HO.out.run S (d + 1) s3 _ P3.out).mono ?_
      intro e w4 h4
      generalize hr : sub s3 = r at h4
      cases r with
      | no c i =>
        obtain rfl : R = .no c i := HR3.out.symm.trans (bd_no hr)
        clear hr
        obtain rfl := h4.1
        go_wp2
        exact ⟨rfl, h4.no K3.out fun _ h => h⟩
      | ok a s4 =>
        have HR4 := Lib.hid ((bd_ok hr).symm.trans HR3.out)
        clear hr HR3
        obtain ⟨rfl, hp, hk⟩ := h4
        have P4 := Lib.hid hp
        have K4 := Lib.hid (K3.out.trans hk)
        clear hp hk
        unfold natV
        go_wp2_with fail
        refine (put0_calls C S d s4 lo { kind := 8, op := o, a := a } ⟨rfl, rfl⟩ rfl w4 P4.out).mono ?_
        intro e w5 h5
        generalize hr : putE C.T lo { kind := 8, op := o, a := a } s4 = r at h5
        cases r with
        | no c i =>
          obtain rfl : R = .no c i := HR4.out.symm.trans (hr)
          clear hr
          obtain rfl := h5.1
          go_wp2
          exact ⟨rfl, h5.no K4.out fun _ h => h⟩
        | ok b s5 =>
          obtain rfl : R = .ok b s5 := HR4.out.symm.trans hr
          clear hr HR4
          obtain ⟨rfl, hp, hk⟩ := h5
          have P5 := Lib.hid hp
          have K5 := Lib.hid (K4.out.trans hk)
          clear hp hk
          unfold natV
          go_wp2
          go_ret
          exact ⟨rfl, P5.out.less (by omega), K5.out⟩

set_option maxRecDepth 100000 in
set_option maxHeartbeats 1000000 in
theorem operand_deep (C : Cx) (S : Nat → Prop) (d : Nat) (s : Sg) (dep : Int) (h1 : 64 < dep) (w : World) (h : PAt C S d s w) : Calls Tryz.prog 184 #[.pointer (some ⟨C.q, 0, none⟩), .int .i64 dep] w (OutP C S d natV (.no 4 s.at_ : Rs Nat) w) := by
  have hwi := Lib.hid (within_no C S d s dep h1 w h natV)
  clear h
  go_enter Tryz.func184, Tryz.ntmps184
  go_wp2_with fail
  refine hwi.out.mono ?_
  intro e w1 h1
  obtain rfl := h1.1
  go_wp2
  exact ⟨rfl, h1⟩
/-- An operand, of whatever depth. -/
theorem operand_part (C : Cx) (hT : TkOk C.T) (k : Nat) (hk : k ≤ 65) : PartC C 184 (65 - (k : Int)) (operandM C.T k) := by
  induction k with
  | zero => exact ⟨fun args w => by simp [go_sem], fun S d s w h => operand_deep C S d s _ (by omega) w h⟩
  | succ k ih =>
    have hi := ih (by omega)
    have e : (65 - ((k + 1 : Nat) : Int)) + 1 = 65 - (k : Int) := by omega
    refine ⟨fun args w => by simp [go_sem], fun S d s w h => ?_⟩
    exact operand_calls C S d s _ (by omega) (by omega) (operandM C.T k) (fine_operand hT k) (by rw [e]; exact hi) (by rw [e]; exact expression_part hT hi ((fine_operand hT k).mono (Nat.zero_le _))) w h
theorem expr_part (C : Cx) (hT : TkOk C.T) (k : Nat) (hk : k ≤ 65) : PartC C 156 (65 - (k : Int)) (expressionM C.T (operandM C.T k)) :=
  expression_part hT (operand_part C hT k hk) ((fine_operand hT k).mono (Nat.zero_le _))

end Go.Proofs.YtdeflloidhbpmaaGreatDoor
