/-
  Statements with blocks; blocks.
-/
import Derived.Test.YtdeflloidhbpmaaGreatDoorK13
import Derived.Deep.RegionWith
namespace Go.Proofs.YtdeflloidhbpmaaGreatDoor
open Go.RowKit

theorem rwAt_one (w : World) (L : Nat → Prop) (i : Nat) (t : TypeId) (hL : L w.heap.size) : RwAt (w.alloc (.cells #[.int .i64 (i : Int)] t)) L (.slice (some ⟨w.heap.size, 0, none⟩) 1 1) (intsV [i]) := by
  refine ⟨_, 0, rfl, fun g hg => ?_, fun _ => ⟨_, rfl, fun j u hu => ?_⟩⟩
  · obtain rfl : w.heap.size = g := by simpa [Value.ownBlock] using hg
    exact ⟨hL, by simp⟩
  · have h := heap_one w #[.int .i64 (i : Int)] t
    generalize w.alloc (.cells #[.int .i64 (i : Int)] t) = W at h
    match j with
    | 0 => simp [World.cell?, h]; simpa [intsV] using hu
    | j + 1 => simp [intsV] at hu
theorem Only.drew {B : Nat} {a w : World} (h : Only B a w) : Only B a w.drew := ⟨h.os, h.tape, h.output, h.size, h.block⟩
theorem RwAt.lt {w : World} {L : Nat → Prop} {v : Value} {vs : List Value} (h : RwAt w L v vs) : ∀ g, v.ownBlock = some g → g < w.heap.size := fun g hg => by
  obtain ⟨A, c, e, h1, _⟩ := h
  exact (h1 g hg).2

set_option maxRecDepth 100000 in
set_option maxHeartbeats 1000000 in
theorem otherwise_calls (C : Cx) (S : Nat → Prop) (d : Nat) (s : Sg) (dep : Int) (blk : Ps (List Nat)) (stm : Ps Nat) (hb : BlockC C dep blk) (hs : StmtC C dep stm) (w : World) (h : PAt C S d s w) : Calls Tryz.prog 157 #[.pointer (some ⟨C.q, 0, none⟩), .int .i64 dep] w (OutL C S d intsV (otherwiseM C.T blk stm s) w) := by
  obtain ⟨R, hR⟩ : ∃ R, otherwiseM C.T blk stm s = R := ⟨_, rfl⟩
  rw [hR]
  have HR := Lib.hid hR
  unfold otherwiseM at HR
  have H := Lib.hid h
  clear h hR
  have HS := Lib.hid hs
  have HB := Lib.hid hb
  clear hs hb
  have hwq := H.out.qlt
  have K0 := Lib.hid (Keep.refl C S w)
  go_enter Tryz.func157, Tryz.ntmps157
  have his := Lib.hid (isL_calls C S d s [kIf] _ rfl 1 rfl (by decide) w H.out _ rfl)
  cases hb : isP C.T [kIf] s
  · rw [hb] at his
    have HRt1 := Lib.hid ((ifF hb).symm.trans HR.out)
    clear hb HR
    go_wp2_with fail
    refine (his.out).mono ?_
    rintro e w1 ⟨rfl, hB⟩
    have P1 := Lib.hid (H.out.below hB)
    have K1 := Lib.hid (K0.out.trans ((H.out.belowK hB).sub (fun _ h => h)))
    clear hB
    go_wp2_with fail
    refine (HB.out S d s _ P1.out).mono ?_
    intro e w2 h2
    generalize hr : blk s = r at h2
    cases r with
    | no c i =>
      obtain rfl : R = .no c i := HRt1.out.symm.trans (hr)
      clear hr
      obtain rfl := h2.1
      go_wp2
      exact ⟨rfl, bad_of h2 K1.out (fun _ h => h)⟩
    | ok l s2 =>
      obtain rfl : R = .ok l s2 := HRt1.out.symm.trans hr
      clear hr HRt1
      obtain ⟨v2, rfl, hl, hp, hk⟩ := h2
      obtain ⟨A2, c2, rfl⟩ : ∃ A c, v2 = .slice A (intsV l).length c := by obtain ⟨A, c, e, _⟩ := hl; exact ⟨A, _, e⟩
      have P2 := Lib.hid hp
      have K2 := Lib.hid (K1.out.trans (hk.sub (fun _ h => h)))
      have L2x2 := Lib.hid hl
      clear hl hp hk
      have HE := Lib.hid (show OutL C S d intsV (.ok l s2) w (.returned (.slice A2 (intsV l).length c2)) w2 from ⟨_, rfl, L2x2.out, P2.out.less (by omega), K2.out⟩)
      go_wp2
      go_ret
      exact HE.out
  · rw [hb] at his
    have HRt1 := Lib.hid ((ifT hb).symm.trans HR.out)
    have hbT := Lib.hid hb
    clear hb HR
    go_wp2_with fail
    refine (his.out).mono ?_
    rintro e w1 ⟨rfl, hB⟩
    have P1 := Lib.hid (H.out.below hB)
    have K1 := Lib.hid (K0.out.trans ((H.out.belowK hB).sub (fun _ h => h)))
    clear hB
    go_wp2_with fail
    refine (HS.out S d s _ P1.out).mono ?_
    intro e w2 h2
    generalize hr : stm s = r at h2
    cases r with
    | no c i =>
      obtain rfl : R = .no c i := HRt1.out.symm.trans (bd_no hr)
      clear hr
      obtain rfl := h2.1
      go_wp2
      exact ⟨rfl, bad_of h2 K1.out (fun _ h => h)⟩
    | ok i s2 =>
      have HR2 := Lib.hid ((bd_ok hr).symm.trans HRt1.out)
      clear hr HRt1
      obtain ⟨rfl, hp, hk⟩ := h2
      have P2 := Lib.hid hp
      have K2 := Lib.hid (K1.out.trans (hk.sub (fun _ h => h)))
      clear hp hk
      unfold natV
      obtain rfl : R = .ok [i] s2 := HR2.out.symm
      have HE := Lib.hid (show OutL C S d intsV (.ok [i] s2) w (.returned (.slice (some ⟨w2.heap.size, 0, none⟩) 1 1)) (w2.alloc (.cells #[.int .i64 (i : Int)] 3)) from ⟨_, rfl, rwAt_one _ _ i _ ⟨P2.out.qlt, fun e => by have := (P2.out.sLt _ e).2; omega⟩, (P2.out.allocA _).sub (fun b hb => hb.imp id (fun e => by simpa [Value.ownBlock] using e.symm)), K2.out.trans (Keep.alloc P2.out _)⟩)
      go_wp2
      go_ret
      exact HE.out

set_option maxRecDepth 100000 in
set_option maxHeartbeats 1000000 in
theorem loop_calls (C : Cx) (S : Nat → Prop) (d : Nat) (s : Sg) (dep : Int) (h0 : 0 ≤ dep) (h1 : dep ≤ 64) (ex : Ps Nat) (blk : Ps (List Nat)) (hp : PartC C 156 dep ex) (hb : BlockC C (dep + 1) blk) (w : World) (h : PAt C S d s w) : Calls Tryz.prog 149 #[.pointer (some ⟨C.q, 0, none⟩), .int .i64 dep] w (OutS C S (d + 1) (loopM C.T ex blk s) w) := by
  obtain ⟨R, hR⟩ : ∃ R, loopM C.T ex blk s = R := ⟨_, rfl⟩
  rw [hR]
  have HR := Lib.hid hR
  unfold loopM at HR
  have H := Lib.hid h
  clear h hR
  have HP := Lib.hid hp
  have HB := Lib.hid hb
  clear hp hb
  have hwq := H.out.qlt
  have P0 := Lib.hid (H.out.allocA (.cells #[.int .i64 0, .int .i64 0, .int .i64 0, .string ⟨#[]⟩, .int .i64 0, .int .i64 0, .int .i64 0, .slice none 0 0, .slice none 0 0] 42))
  have K0 := Lib.hid (Keep.alloc H.out (.cells #[.int .i64 0, .int .i64 0, .int .i64 0, .string ⟨#[]⟩, .int .i64 0, .int .i64 0, .int .i64 0, .slice none 0 0, .slice none 0 0] 42))
  have bA0 := Lib.hid (heap_one w #[.int .i64 0, .int .i64 0, .int .i64 0, .string ⟨#[]⟩, .int .i64 0, .int .i64 0, .int .i64 0, .slice none 0 0, .slice none 0 0] 42)
  go_enter Tryz.func149, Tryz.ntmps149
  go_wp2_with fail
  refine (takeL_calls C (Also S w.heap.size) d s [kWhile] _ rfl 1 rfl (by decide) (by decide) _ P0.out (w.heap.size + 1) (by simp)).mono ?_
  intro e w1 h1
  generalize hr : takeP C.T [kWhile] s = r at h1
  cases r with
  | no c i =>
    obtain rfl : R = .no c i := HR.out.symm.trans (bd_no hr)
    clear hr
    obtain rfl := h1.1
    go_wp2
    exact ⟨rfl, bad_of h1 K0.out (fun _ h => .inl (h))⟩
  | ok o s1 =>
    have HR1 := Lib.hid ((bd_ok hr).symm.trans HR.out)
    clear hr HR
    obtain ⟨rfl, hp, hk⟩ := h1
    have P1 := Lib.hid hp
    have K1 := Lib.hid (K0.out.trans (hk.sub (fun _ h => .inl (h))))
    have bA1 := Lib.hid ((hk.kept _ (.inr rfl)).trans bA0.out)
    clear hp hk
    unfold strV
    go_wp2_with fail
    refine (HP.out.run (Also S w.heap.size) (d + 1) s1 _ P1.out).mono ?_
    intro e w2 h2
    generalize hr : ex s1 = r at h2
    cases r with
    | no c i =>
      obtain rfl : R = .no c i := HR1.out.symm.trans (bd_no hr)
      clear hr
      obtain rfl := h2.1
      go_wp2
      exact ⟨rfl, bad_of h2 K1.out (fun _ h => .inl (h))⟩
    | ok a s2 =>
      have HR2 := Lib.hid ((bd_ok hr).symm.trans HR1.out)
      clear hr HR1
      obtain ⟨rfl, hp, hk⟩ := h2
      have P2 := Lib.hid hp
      have K2 := Lib.hid (K1.out.trans (hk.sub (fun _ h => .inl (h))))
      have bA2 := Lib.hid ((hk.kept _ (.inr rfl)).trans bA1.out)
      clear hp hk
      unfold natV
      have hlbw : Hid (w.heap.size < w2.heap.size) := Lib.hid (blk_lt bA2.out)
      go_wp2_with (refine wpList_store_whole rfl 42 (.tmp 5) (.tmp 12) rfl w2.heap.size #[.int .i64 0, .int .i64 0, .int .i64 0, .string ⟨#[]⟩, .int .i64 0, .int .i64 0, .int .i64 0, .slice none 0 0, .slice none 0 0] (smV ({ kind := 6, a := (a : Int) } : Sm) (.slice none 0 0) (.slice none 0 0)).toArray 42 (heap_one w2 _ _) rfl rfl rfl Tryz.sizeSm (all_oneCell_toArray (oneS ({ kind := 6, a := (a : Int) } : Sm) (.slice none 0 0) (.slice none 0 0) rfl rfl)) ?_; intro w3 ho3 hb3; have HO3 := Lib.hid ho3; have bL3 := Lib.hid hb3; clear ho3 hb3)
      have P3 := Lib.hid ((P2.out.allocA (.cells #[.int .i64 0, .int .i64 0, .int .i64 0, .string ⟨#[]⟩, .int .i64 0, .int .i64 0, .int .i64 0, .slice none 0 0, .slice none 0 0] 42)).only HO3.out (.inr rfl))
      have K3 := Lib.hid ((K2.out.trans ((Keep.alloc P2.out (.cells #[.int .i64 0, .int .i64 0, .int .i64 0, .string ⟨#[]⟩, .int .i64 0, .int .i64 0, .int .i64 0, .slice none 0 0, .slice none 0 0] 42)).sub (fun _ h => .inl (h)))).only HO3.out (by have := P2.out.qlt; omega) (fun e => by have h1 := (H.out.sLt _ e).2; have h2 := K2.out.below.size; omega))
      have bA3 := Lib.hid ((HO3.out.block _ (by have := blk_lt bA2.out; omega)).trans ((Below.heap_alloc _ _ _ (blk_lt bA2.out)).trans bA2.out))
      go_wp2_with fail
      refine (HB.out (Also (Also S w.heap.size) w2.heap.size) (d + 1) s2 _ P3.out).mono ?_
      intro e w4 h4
      generalize hr : blk s2 = r at h4
      cases r with
      | no c i =>
        obtain rfl : R = .no c i := HR2.out.symm.trans (bd_no hr)
        clear hr
        obtain rfl := h4.1
        go_wp2
        exact ⟨rfl, bad_of h4 K3.out (fun _ h => .inl (.inl (h)))⟩
      | ok l s4 =>
        have HR4 := Lib.hid ((bd_ok hr).symm.trans HR2.out)
        clear hr HR2
        obtain ⟨v4, rfl, hl, hp, hk⟩ := h4
        obtain ⟨A4, c4, rfl⟩ : ∃ A c, v4 = .slice A (intsV l).length c := by obtain ⟨A, c, e, _⟩ := hl; exact ⟨A, _, e⟩
        have P4 := Lib.hid hp
        have K4 := Lib.hid (K3.out.trans (hk.sub (fun _ h => .inl (.inl (h)))))
        have bA4 := Lib.hid ((hk.kept _ (.inl (.inr rfl))).trans bA3.out)
        have bL4 := Lib.hid ((hk.kept _ (.inr rfl)).trans bL3.out)
        have L4x4 := Lib.hid hl
        clear hl hp hk
        obtain rfl : R = .ok ({ kind := 6, a := (a : Int), thn := l } : Sm) s4 := HR4.out.symm
        have lf0 : w4.frozen? ⟨w2.heap.size, 0, none⟩ = false := by simp [World.frozen?, bL4.out]
        have lc0 : w4.cell? ⟨w2.heap.size, 0, none⟩ = some (.int .i64 6) := by simp [World.cell?, bL4.out, smV, bs]
        have lf1 : w4.frozen? ⟨w2.heap.size, 1, none⟩ = false := by simp [World.frozen?, bL4.out]
        have lc1 : w4.cell? ⟨w2.heap.size, 1, none⟩ = some (.int .i64 0) := by simp [World.cell?, bL4.out, smV, bs]
        have lf2 : w4.frozen? ⟨w2.heap.size, 2, none⟩ = false := by simp [World.frozen?, bL4.out]
        have lc2 : w4.cell? ⟨w2.heap.size, 2, none⟩ = some (.int .i64 0) := by simp [World.cell?, bL4.out, smV, bs]
        have lf3 : w4.frozen? ⟨w2.heap.size, 3, none⟩ = false := by simp [World.frozen?, bL4.out]
        have lc3 : w4.cell? ⟨w2.heap.size, 3, none⟩ = some (.string ⟨#[]⟩) := by simp [World.cell?, bL4.out, smV, bs]
        have lf4 : w4.frozen? ⟨w2.heap.size, 4, none⟩ = false := by simp [World.frozen?, bL4.out]
        have lc4 : w4.cell? ⟨w2.heap.size, 4, none⟩ = some (.int .i64 0) := by simp [World.cell?, bL4.out, smV, bs]
        have lf5 : w4.frozen? ⟨w2.heap.size, 5, none⟩ = false := by simp [World.frozen?, bL4.out]
        have lc5 : w4.cell? ⟨w2.heap.size, 5, none⟩ = some (.int .i64 (a : Int)) := by simp [World.cell?, bL4.out, smV, bs]
        have lf6 : w4.frozen? ⟨w2.heap.size, 6, none⟩ = false := by simp [World.frozen?, bL4.out]
        have lc6 : w4.cell? ⟨w2.heap.size, 6, none⟩ = some (.int .i64 0) := by simp [World.cell?, bL4.out, smV, bs]
        have lf7 : w4.frozen? ⟨w2.heap.size, 7, none⟩ = false := by simp [World.frozen?, bL4.out]
        have lc7 : w4.cell? ⟨w2.heap.size, 7, none⟩ = some (.slice none 0 0) := by simp [World.cell?, bL4.out, smV, bs]
        have lf8 : w4.frozen? ⟨w2.heap.size, 8, none⟩ = false := by simp [World.frozen?, bL4.out]
        have lc8 : w4.cell? ⟨w2.heap.size, 8, none⟩ = some (.slice none 0 0) := by simp [World.cell?, bL4.out, smV, bs]
        have HO5 := Lib.hid ((Only.refl w2.heap.size w4).set 7 ((.slice A4 (intsV l).length c4)))
        have P5 := Lib.hid (P4.out.only HO5.out (.inl (.inr rfl)))
        have K5 := Lib.hid (K4.out.only HO5.out (by have := (P4.out.sLt _ (.inl (.inr rfl))).1; omega) (fun e => by have h1 := (H.out.sLt _ e).2; have h2 := hlbw.out; omega))
        have ff5 : w4.frozen? ⟨w2.heap.size, 7, none⟩ = false := by simp [World.frozen?, bL4.out]
        have fc5 : w4.cell? ⟨w2.heap.size, 7, none⟩ = some (.slice none 0 0) := by simp [World.cell?, bL4.out, smV, bs]
        have bA5 := Lib.hid ((HO5.out.block _ (by have h1 := hlbw.out; omega)).trans bA4.out)
        have bL5 := Lib.hid (setCell_at w4 w2.heap.size 7 ((.slice A4 (intsV l).length c4)) _ _ _ bL4.out)
        have L4x5 := Lib.hid (L4x4.out.only HO5.out fun g hg => ⟨hg, fun e => hg.2 (e ▸ .inr rfl)⟩)
        go_wp2_with (refine wpList_store_whole rfl 42 (.tmp 4) (.tmp 18) rfl w.heap.size _ (smV ({ kind := 6, a := (a : Int), thn := l } : Sm) ((.slice A4 (intsV l).length c4)) (.slice none 0 0)).toArray 42 bA5.out rfl rfl rfl Tryz.sizeSm (all_oneCell_toArray (oneS ({ kind := 6, a := (a : Int), thn := l } : Sm) ((.slice A4 (intsV l).length c4)) (.slice none 0 0) rfl rfl)) ?_; intro w99 ho99 hb99; have HO99 := Lib.hid ho99; have HB99 := Lib.hid hb99; clear ho99 hb99)
        have rc0 : w99.cell? ⟨w.heap.size, 0, none⟩ = some (.int .i64 6) := by simp [World.cell?, HB99.out, smV, bs]
        have rc1 : w99.cell? ⟨w.heap.size, 1, none⟩ = some (.int .i64 0) := by simp [World.cell?, HB99.out, smV, bs]
        have rc2 : w99.cell? ⟨w.heap.size, 2, none⟩ = some (.int .i64 0) := by simp [World.cell?, HB99.out, smV, bs]
        have rc3 : w99.cell? ⟨w.heap.size, 3, none⟩ = some (.string ⟨#[]⟩) := by simp [World.cell?, HB99.out, smV, bs]
        have rc4 : w99.cell? ⟨w.heap.size, 4, none⟩ = some (.int .i64 0) := by simp [World.cell?, HB99.out, smV, bs]
        have rc5 : w99.cell? ⟨w.heap.size, 5, none⟩ = some (.int .i64 (a : Int)) := by simp [World.cell?, HB99.out, smV, bs]
        have rc6 : w99.cell? ⟨w.heap.size, 6, none⟩ = some (.int .i64 0) := by simp [World.cell?, HB99.out, smV, bs]
        have rc7 : w99.cell? ⟨w.heap.size, 7, none⟩ = some ((.slice A4 (intsV l).length c4)) := by simp [World.cell?, HB99.out, smV, bs]
        have rc8 : w99.cell? ⟨w.heap.size, 8, none⟩ = some (.slice none 0 0) := by simp [World.cell?, HB99.out, smV, bs]
        refine bodyPost_ret (v := .agg #[.int .i64 6, .int .i64 0, .int .i64 0, .string ⟨#[]⟩, .int .i64 0, .int .i64 (a : Int), .int .i64 0, (.slice A4 (intsV l).length c4), .slice none 0 0]) (by simp [results, Tryz.results149, go_sem, rc0, rc1, rc2, rc3, rc4, rc5, rc6, rc7, rc8]) rfl ?_
        exact outS_fin (x := ({ kind := 6, a := (a : Int), thn := l } : Sm)) H.out ((P5.out.less (by omega)).sub (fun _ h => with_nil h)) (fun _ h => .inl (.inl (h))) (.inl (.inr rfl)) (Nat.le_refl _) HO99.out ⟨rfl, rfl⟩ L4x5.out (rwAt_nil _ _) K5.out

set_option maxRecDepth 100000 in
set_option maxHeartbeats 4000000 in
theorem choice_calls (C : Cx) (S : Nat → Prop) (d : Nat) (s : Sg) (dep : Int) (h0 : 0 ≤ dep) (h1 : dep ≤ 64) (ex : Ps Nat) (blk : Ps (List Nat)) (stm : Ps Nat) (hp : PartC C 156 dep ex) (hb : BlockC C (dep + 1) blk) (hs : (∀ s a s', blk s ≠ .ok a s') ∨ StmtC C (dep + 1) stm) (w : World) (h : PAt C S d s w) : Calls Tryz.prog 148 #[.pointer (some ⟨C.q, 0, none⟩), .int .i64 dep] w (OutS C S (d + 1) (choiceM C.T ex blk stm s) w) := by
  obtain ⟨R, hR⟩ : ∃ R, choiceM C.T ex blk stm s = R := ⟨_, rfl⟩
  rw [hR]
  have HR := Lib.hid hR
  unfold choiceM at HR
  have H := Lib.hid h
  clear h hR
  have HP := Lib.hid hp
  have HB := Lib.hid hb
  have HS := Lib.hid hs
  clear hp hb hs
  have hwq := H.out.qlt
  have P0 := Lib.hid (H.out.allocA (.cells #[.int .i64 0, .int .i64 0, .int .i64 0, .string ⟨#[]⟩, .int .i64 0, .int .i64 0, .int .i64 0, .slice none 0 0, .slice none 0 0] 42))
  have K0 := Lib.hid (Keep.alloc H.out (.cells #[.int .i64 0, .int .i64 0, .int .i64 0, .string ⟨#[]⟩, .int .i64 0, .int .i64 0, .int .i64 0, .slice none 0 0, .slice none 0 0] 42))
  have bA0 := Lib.hid (heap_one w #[.int .i64 0, .int .i64 0, .int .i64 0, .string ⟨#[]⟩, .int .i64 0, .int .i64 0, .int .i64 0, .slice none 0 0, .slice none 0 0] 42)
  go_enter Tryz.func148, Tryz.ntmps148
  go_wp2_with fail
  refine (takeL_calls C (Also S w.heap.size) d s [kIf] _ rfl 1 rfl (by decide) (by decide) _ P0.out (w.heap.size + 1) (by simp)).mono ?_
  intro e w1 h1
  generalize hr : takeP C.T [kIf] s = r at h1
  cases r with
  | no c i =>
    obtain rfl : R = .no c i := HR.out.symm.trans (bd_no hr)
    clear hr
    obtain rfl := h1.1
    go_wp2
    exact ⟨rfl, bad_of h1 K0.out (fun _ h => .inl (h))⟩
  | ok o s1 =>
    have HR1 := Lib.hid ((bd_ok hr).symm.trans HR.out)
    clear hr HR
    obtain ⟨rfl, hp, hk⟩ := h1
    have P1 := Lib.hid hp
    have K1 := Lib.hid (K0.out.trans (hk.sub (fun _ h => .inl (h))))
    have bA1 := Lib.hid ((hk.kept _ (.inr rfl)).trans bA0.out)
    clear hp hk
    unfold strV
    go_wp2_with fail
    refine (HP.out.run (Also S w.heap.size) (d + 1) s1 _ P1.out).mono ?_
    intro e w2 h2
    generalize hr : ex s1 = r at h2
    cases r with
    | no c i =>
      obtain rfl : R = .no c i := HR1.out.symm.trans (bd_no hr)
      clear hr
      obtain rfl := h2.1
      go_wp2
      exact ⟨rfl, bad_of h2 K1.out (fun _ h => .inl (h))⟩
    | ok a s2 =>
      have HR2 := Lib.hid ((bd_ok hr).symm.trans HR1.out)
      clear hr HR1
      obtain ⟨rfl, hp, hk⟩ := h2
      have P2 := Lib.hid hp
      have K2 := Lib.hid (K1.out.trans (hk.sub (fun _ h => .inl (h))))
      have bA2 := Lib.hid ((hk.kept _ (.inr rfl)).trans bA1.out)
      clear hp hk
      unfold natV
      have hlbw : Hid (w.heap.size < w2.heap.size) := Lib.hid (blk_lt bA2.out)
      go_wp2_with (refine wpList_store_whole rfl 42 (.tmp 5) (.tmp 12) rfl w2.heap.size #[.int .i64 0, .int .i64 0, .int .i64 0, .string ⟨#[]⟩, .int .i64 0, .int .i64 0, .int .i64 0, .slice none 0 0, .slice none 0 0] (smV ({ kind := 5, a := (a : Int) } : Sm) (.slice none 0 0) (.slice none 0 0)).toArray 42 (heap_one w2 _ _) rfl rfl rfl Tryz.sizeSm (all_oneCell_toArray (oneS ({ kind := 5, a := (a : Int) } : Sm) (.slice none 0 0) (.slice none 0 0) rfl rfl)) ?_; intro w3 ho3 hb3; have HO3 := Lib.hid ho3; have bL3 := Lib.hid hb3; clear ho3 hb3)
      have P3 := Lib.hid ((P2.out.allocA (.cells #[.int .i64 0, .int .i64 0, .int .i64 0, .string ⟨#[]⟩, .int .i64 0, .int .i64 0, .int .i64 0, .slice none 0 0, .slice none 0 0] 42)).only HO3.out (.inr rfl))
      have K3 := Lib.hid ((K2.out.trans ((Keep.alloc P2.out (.cells #[.int .i64 0, .int .i64 0, .int .i64 0, .string ⟨#[]⟩, .int .i64 0, .int .i64 0, .int .i64 0, .slice none 0 0, .slice none 0 0] 42)).sub (fun _ h => .inl (h)))).only HO3.out (by have := P2.out.qlt; omega) (fun e => by have h1 := (H.out.sLt _ e).2; have h2 := K2.out.below.size; omega))
      have bA3 := Lib.hid ((HO3.out.block _ (by have := blk_lt bA2.out; omega)).trans ((Below.heap_alloc _ _ _ (blk_lt bA2.out)).trans bA2.out))
      go_wp2_with fail
      refine (HB.out (Also (Also S w.heap.size) w2.heap.size) (d + 1) s2 _ P3.out).mono ?_
      intro e w4 h4
      generalize hr : blk s2 = r at h4
      cases r with
      | no c i =>
        obtain rfl : R = .no c i := HR2.out.symm.trans (bd_no hr)
        clear hr
        obtain rfl := h4.1
        go_wp2
        exact ⟨rfl, bad_of h4 K3.out (fun _ h => .inl (.inl (h)))⟩
      | ok l s4 =>
        have HSO := Lib.hid (HS.out.resolve_left (fun hh => hh _ _ _ hr))
        have HR4 := Lib.hid ((bd_ok hr).symm.trans HR2.out)
        clear hr HR2
        obtain ⟨v4, rfl, hl, hp, hk⟩ := h4
        obtain ⟨A4, c4, rfl⟩ : ∃ A c, v4 = .slice A (intsV l).length c := by obtain ⟨A, c, e, _⟩ := hl; exact ⟨A, _, e⟩
        have P4 := Lib.hid hp
        have K4 := Lib.hid (K3.out.trans (hk.sub (fun _ h => .inl (.inl (h)))))
        have bA4 := Lib.hid ((hk.kept _ (.inl (.inr rfl))).trans bA3.out)
        have bL4 := Lib.hid ((hk.kept _ (.inr rfl)).trans bL3.out)
        have L4x4 := Lib.hid hl
        clear hl hp hk
        have lf0 : w4.frozen? ⟨w2.heap.size, 0, none⟩ = false := by simp [World.frozen?, bL4.out]
        have lc0 : w4.cell? ⟨w2.heap.size, 0, none⟩ = some (.int .i64 5) := by simp [World.cell?, bL4.out, smV, bs]
        have lf1 : w4.frozen? ⟨w2.heap.size, 1, none⟩ = false := by simp [World.frozen?, bL4.out]
        have lc1 : w4.cell? ⟨w2.heap.size, 1, none⟩ = some (.int .i64 0) := by simp [World.cell?, bL4.out, smV, bs]
        have lf2 : w4.frozen? ⟨w2.heap.size, 2, none⟩ = false := by simp [World.frozen?, bL4.out]
        have lc2 : w4.cell? ⟨w2.heap.size, 2, none⟩ = some (.int .i64 0) := by simp [World.cell?, bL4.out, smV, bs]
        have lf3 : w4.frozen? ⟨w2.heap.size, 3, none⟩ = false := by simp [World.frozen?, bL4.out]
        have lc3 : w4.cell? ⟨w2.heap.size, 3, none⟩ = some (.string ⟨#[]⟩) := by simp [World.cell?, bL4.out, smV, bs]
        have lf4 : w4.frozen? ⟨w2.heap.size, 4, none⟩ = false := by simp [World.frozen?, bL4.out]
        have lc4 : w4.cell? ⟨w2.heap.size, 4, none⟩ = some (.int .i64 0) := by simp [World.cell?, bL4.out, smV, bs]
        have lf5 : w4.frozen? ⟨w2.heap.size, 5, none⟩ = false := by simp [World.frozen?, bL4.out]
        have lc5 : w4.cell? ⟨w2.heap.size, 5, none⟩ = some (.int .i64 (a : Int)) := by simp [World.cell?, bL4.out, smV, bs]
        have lf6 : w4.frozen? ⟨w2.heap.size, 6, none⟩ = false := by simp [World.frozen?, bL4.out]
        have lc6 : w4.cell? ⟨w2.heap.size, 6, none⟩ = some (.int .i64 0) := by simp [World.cell?, bL4.out, smV, bs]
        have lf7 : w4.frozen? ⟨w2.heap.size, 7, none⟩ = false := by simp [World.frozen?, bL4.out]
        have lc7 : w4.cell? ⟨w2.heap.size, 7, none⟩ = some (.slice none 0 0) := by simp [World.cell?, bL4.out, smV, bs]
        have lf8 : w4.frozen? ⟨w2.heap.size, 8, none⟩ = false := by simp [World.frozen?, bL4.out]
        have lc8 : w4.cell? ⟨w2.heap.size, 8, none⟩ = some (.slice none 0 0) := by simp [World.cell?, bL4.out, smV, bs]
        have HO5 := Lib.hid ((Only.refl w2.heap.size w4).set 7 ((.slice A4 (intsV l).length c4)))
        have P5 := Lib.hid (P4.out.only HO5.out (.inl (.inr rfl)))
        have K5 := Lib.hid (K4.out.only HO5.out (by have := (P4.out.sLt _ (.inl (.inr rfl))).1; omega) (fun e => by have h1 := (H.out.sLt _ e).2; have h2 := hlbw.out; omega))
        have ff5 : w4.frozen? ⟨w2.heap.size, 7, none⟩ = false := by simp [World.frozen?, bL4.out]
        have fc5 : w4.cell? ⟨w2.heap.size, 7, none⟩ = some (.slice none 0 0) := by simp [World.cell?, bL4.out, smV, bs]
        have bA5 := Lib.hid ((HO5.out.block _ (by have h1 := hlbw.out; omega)).trans bA4.out)
        have bL5 := Lib.hid (setCell_at w4 w2.heap.size 7 ((.slice A4 (intsV l).length c4)) _ _ _ bL4.out)
        have L4x5 := Lib.hid (L4x4.out.only HO5.out fun g hg => ⟨hg, fun e => hg.2 (e ▸ .inr rfl)⟩)
        have his := Lib.hid (isL_calls C (With (Also (Also S w.heap.size) w2.heap.size) (.slice A4 (intsV l).length c4)) (d + 1 + 1) s4 [kElse] _ rfl 1 rfl (by decide) (w4.setCell ⟨w2.heap.size, 7, none⟩ ((.slice A4 (intsV l).length c4))) P5.out (w4.heap.size) (by simp [World.setCell]))
        cases hb : isP C.T [kElse] s4
        · rw [hb] at his
          have HRt6 := Lib.hid ((ifF hb).symm.trans HR4.out)
          clear hb HR4
          go_wp2_with fail
          refine (his.out).mono ?_
          rintro e w6 ⟨rfl, hB⟩
          have P6 := Lib.hid (P5.out.below hB)
          have K6 := Lib.hid (K5.out.trans ((P5.out.belowK hB).sub (fun _ h => .inl (.inl (.inl (h))))))
          have bA6 := Lib.hid ((hB.block _ (blk_lt bA5.out)).trans bA5.out)
          have bL6 := Lib.hid ((hB.block _ (blk_lt bL5.out)).trans bL5.out)
          have L4x6 := Lib.hid (L4x5.out.keep hB.size fun g _ hf hlt => ⟨hf, hB.block g hlt⟩)
          clear hB
          obtain rfl : R = .ok ({ kind := 5, a := (a : Int), thn := l } : Sm) s4 := HRt6.out.symm
          have nf0 : w6.frozen? ⟨w2.heap.size, 0, none⟩ = false := by simp [World.frozen?, bL6.out]
          have nc0 : w6.cell? ⟨w2.heap.size, 0, none⟩ = some (.int .i64 5) := by simp [World.cell?, bL6.out, smV, bs]
          have nf1 : w6.frozen? ⟨w2.heap.size, 1, none⟩ = false := by simp [World.frozen?, bL6.out]
          have nc1 : w6.cell? ⟨w2.heap.size, 1, none⟩ = some (.int .i64 0) := by simp [World.cell?, bL6.out, smV, bs]
          have nf2 : w6.frozen? ⟨w2.heap.size, 2, none⟩ = false := by simp [World.frozen?, bL6.out]
          have nc2 : w6.cell? ⟨w2.heap.size, 2, none⟩ = some (.int .i64 0) := by simp [World.cell?, bL6.out, smV, bs]
          have nf3 : w6.frozen? ⟨w2.heap.size, 3, none⟩ = false := by simp [World.frozen?, bL6.out]
          have nc3 : w6.cell? ⟨w2.heap.size, 3, none⟩ = some (.string ⟨#[]⟩) := by simp [World.cell?, bL6.out, smV, bs]
          have nf4 : w6.frozen? ⟨w2.heap.size, 4, none⟩ = false := by simp [World.frozen?, bL6.out]
          have nc4 : w6.cell? ⟨w2.heap.size, 4, none⟩ = some (.int .i64 0) := by simp [World.cell?, bL6.out, smV, bs]
          have nf5 : w6.frozen? ⟨w2.heap.size, 5, none⟩ = false := by simp [World.frozen?, bL6.out]
          have nc5 : w6.cell? ⟨w2.heap.size, 5, none⟩ = some (.int .i64 (a : Int)) := by simp [World.cell?, bL6.out, smV, bs]
          have nf6 : w6.frozen? ⟨w2.heap.size, 6, none⟩ = false := by simp [World.frozen?, bL6.out]
          have nc6 : w6.cell? ⟨w2.heap.size, 6, none⟩ = some (.int .i64 0) := by simp [World.cell?, bL6.out, smV, bs]
          have nf7 : w6.frozen? ⟨w2.heap.size, 7, none⟩ = false := by simp [World.frozen?, bL6.out]
          have nc7 : w6.cell? ⟨w2.heap.size, 7, none⟩ = some ((.slice A4 (intsV l).length c4)) := by simp [World.cell?, bL6.out, smV, bs]
          have nf8 : w6.frozen? ⟨w2.heap.size, 8, none⟩ = false := by simp [World.frozen?, bL6.out]
          have nc8 : w6.cell? ⟨w2.heap.size, 8, none⟩ = some (.slice none 0 0) := by simp [World.cell?, bL6.out, smV, bs]
          go_wp2_with (refine wpList_store_whole rfl 42 (.tmp 4) (.tmp 29) rfl w.heap.size _ (smV ({ kind := 5, a := (a : Int), thn := l } : Sm) ((.slice A4 (intsV l).length c4)) (.slice none 0 0)).toArray 42 bA6.out rfl rfl rfl Tryz.sizeSm (all_oneCell_toArray (oneS ({ kind := 5, a := (a : Int), thn := l } : Sm) ((.slice A4 (intsV l).length c4)) (.slice none 0 0) rfl rfl)) ?_; intro w99 ho99 hb99; have HO99 := Lib.hid ho99; have HB99 := Lib.hid hb99; clear ho99 hb99)
          have rc0 : w99.cell? ⟨w.heap.size, 0, none⟩ = some (.int .i64 5) := by simp [World.cell?, HB99.out, smV, bs]
          have rc1 : w99.cell? ⟨w.heap.size, 1, none⟩ = some (.int .i64 0) := by simp [World.cell?, HB99.out, smV, bs]
          have rc2 : w99.cell? ⟨w.heap.size, 2, none⟩ = some (.int .i64 0) := by simp [World.cell?, HB99.out, smV, bs]
          have rc3 : w99.cell? ⟨w.heap.size, 3, none⟩ = some (.string ⟨#[]⟩) := by simp [World.cell?, HB99.out, smV, bs]
          have rc4 : w99.cell? ⟨w.heap.size, 4, none⟩ = some (.int .i64 0) := by simp [World.cell?, HB99.out, smV, bs]
          have rc5 : w99.cell? ⟨w.heap.size, 5, none⟩ = some (.int .i64 (a : Int)) := by simp [World.cell?, HB99.out, smV, bs]
          have rc6 : w99.cell? ⟨w.heap.size, 6, none⟩ = some (.int .i64 0) := by simp [World.cell?, HB99.out, smV, bs]
          have rc7 : w99.cell? ⟨w.heap.size, 7, none⟩ = some ((.slice A4 (intsV l).length c4)) := by simp [World.cell?, HB99.out, smV, bs]
          have rc8 : w99.cell? ⟨w.heap.size, 8, none⟩ = some (.slice none 0 0) := by simp [World.cell?, HB99.out, smV, bs]
          refine bodyPost_ret (v := .agg #[.int .i64 5, .int .i64 0, .int .i64 0, .string ⟨#[]⟩, .int .i64 0, .int .i64 (a : Int), .int .i64 0, (.slice A4 (intsV l).length c4), .slice none 0 0]) (by simp [results, Tryz.results148, go_sem, rc0, rc1, rc2, rc3, rc4, rc5, rc6, rc7, rc8]) rfl ?_
          exact outS_fin (x := ({ kind := 5, a := (a : Int), thn := l } : Sm)) H.out ((P6.out.less (by omega)).sub (fun _ h => with_nil h)) (fun _ h => .inl (.inl (h))) (.inl (.inr rfl)) (Nat.le_refl _) HO99.out ⟨rfl, rfl⟩ L4x6.out (rwAt_nil _ _) K6.out
        · rw [hb] at his
          have HRt6 := Lib.hid ((ifT hb).symm.trans HR4.out)
          have hbT := Lib.hid hb
          clear hb HR4
          go_wp2_with fail
          refine (his.out).mono ?_
          rintro e w6 ⟨rfl, hB⟩
          have P6 := Lib.hid (P5.out.below hB)
          have K6 := Lib.hid (K5.out.trans ((P5.out.belowK hB).sub (fun _ h => .inl (.inl (.inl (h))))))
          have bA6 := Lib.hid ((hB.block _ (blk_lt bA5.out)).trans bA5.out)
          have bL6 := Lib.hid ((hB.block _ (blk_lt bL5.out)).trans bL5.out)
          have L4x6 := Lib.hid (L4x5.out.keep hB.size fun g _ hf hlt => ⟨hf, hB.block g hlt⟩)
          clear hB
          go_wp2_with fail
          refine (takeL_calls C (With (Also (Also S w.heap.size) w2.heap.size) (.slice A4 (intsV l).length c4)) (d + 1 + 1) s4 [kElse] _ rfl 1 rfl (by decide) (by decide) w6 P6.out _ rfl).mono ?_
          intro e w7 h7
          generalize hr : takeP C.T [kElse] s4 = r at h7
          cases r with
          | no c i =>
            obtain rfl : R = .no c i := HRt6.out.symm.trans (bd_no hr)
            clear hr
            obtain rfl := h7.1
            go_wp2
            exact ⟨rfl, bad_of h7 K6.out (fun _ h => .inl (.inl (.inl (h))))⟩
          | ok o2 s7 =>
            have HR7 := Lib.hid ((bd_ok hr).symm.trans HRt6.out)
            clear hr HRt6
            obtain ⟨rfl, hp, hk⟩ := h7
            have P7 := Lib.hid hp
            have K7 := Lib.hid (K6.out.trans (hk.sub (fun _ h => .inl (.inl (.inl (h))))))
            have bA7 := Lib.hid ((hk.kept _ (.inl (.inl (.inr rfl)))).trans bA6.out)
            have bL7 := Lib.hid ((hk.kept _ (.inl (.inr rfl))).trans bL6.out)
            have L4x7 := Lib.hid (L4x6.out.keep hk.below.size fun g hg hf _ => ⟨hf, hk.kept g (.inr hg)⟩)
            clear hp hk
            unfold strV
            go_wp2_with fail
            refine (otherwise_calls C (With (Also (Also S w.heap.size) w2.heap.size) (.slice A4 (intsV l).length c4)) (d + 1 + 1 + 1) s7 (dep + 1) blk stm HB.out HSO.out _ P7.out).mono ?_
            intro e w8 h8
            generalize hr : otherwiseM C.T blk stm s7 = r at h8
            cases r with
            | no c i =>
              obtain rfl : R = .no c i := HR7.out.symm.trans (bd_no hr)
              clear hr
              obtain rfl := h8.1
              go_wp2
              exact ⟨rfl, bad_of h8 K7.out (fun _ h => .inl (.inl (.inl (h))))⟩
            | ok m s8 =>
              have HR8 := Lib.hid ((bd_ok hr).symm.trans HR7.out)
              clear hr HR7
              obtain ⟨v8, rfl, hl, hp, hk⟩ := h8
              obtain ⟨A8, c8, rfl⟩ : ∃ A c, v8 = .slice A (intsV m).length c := by obtain ⟨A, c, e, _⟩ := hl; exact ⟨A, _, e⟩
              have P8 := Lib.hid hp
              have K8 := Lib.hid (K7.out.trans (hk.sub (fun _ h => .inl (.inl (.inl (h))))))
              have bA8 := Lib.hid ((hk.kept _ (.inl (.inl (.inr rfl)))).trans bA7.out)
              have bL8 := Lib.hid ((hk.kept _ (.inl (.inr rfl))).trans bL7.out)
              have L4x8 := Lib.hid (L4x7.out.keep hk.below.size fun g hg hf _ => ⟨hf, hk.kept g (.inr hg)⟩)
              have L8x8 := Lib.hid hl
              clear hl hp hk
              obtain rfl : R = .ok ({ kind := 5, a := (a : Int), thn := l, els := m } : Sm) s8 := HR8.out.symm
              have nf0 : w8.frozen? ⟨w2.heap.size, 0, none⟩ = false := by simp [World.frozen?, bL8.out]
              have nc0 : w8.cell? ⟨w2.heap.size, 0, none⟩ = some (.int .i64 5) := by simp [World.cell?, bL8.out, smV, bs]
              have nf1 : w8.frozen? ⟨w2.heap.size, 1, none⟩ = false := by simp [World.frozen?, bL8.out]
              have nc1 : w8.cell? ⟨w2.heap.size, 1, none⟩ = some (.int .i64 0) := by simp [World.cell?, bL8.out, smV, bs]
              have nf2 : w8.frozen? ⟨w2.heap.size, 2, none⟩ = false := by simp [World.frozen?, bL8.out]
              have nc2 : w8.cell? ⟨w2.heap.size, 2, none⟩ = some (.int .i64 0) := by simp [World.cell?, bL8.out, smV, bs]
              have nf3 : w8.frozen? ⟨w2.heap.size, 3, none⟩ = false := by simp [World.frozen?, bL8.out]
              have nc3 : w8.cell? ⟨w2.heap.size, 3, none⟩ = some (.string ⟨#[]⟩) := by simp [World.cell?, bL8.out, smV, bs]
              have nf4 : w8.frozen? ⟨w2.heap.size, 4, none⟩ = false := by simp [World.frozen?, bL8.out]
              have nc4 : w8.cell? ⟨w2.heap.size, 4, none⟩ = some (.int .i64 0) := by simp [World.cell?, bL8.out, smV, bs]
              have nf5 : w8.frozen? ⟨w2.heap.size, 5, none⟩ = false := by simp [World.frozen?, bL8.out]
              have nc5 : w8.cell? ⟨w2.heap.size, 5, none⟩ = some (.int .i64 (a : Int)) := by simp [World.cell?, bL8.out, smV, bs]
              have nf6 : w8.frozen? ⟨w2.heap.size, 6, none⟩ = false := by simp [World.frozen?, bL8.out]
              have nc6 : w8.cell? ⟨w2.heap.size, 6, none⟩ = some (.int .i64 0) := by simp [World.cell?, bL8.out, smV, bs]
              have nf7 : w8.frozen? ⟨w2.heap.size, 7, none⟩ = false := by simp [World.frozen?, bL8.out]
              have nc7 : w8.cell? ⟨w2.heap.size, 7, none⟩ = some ((.slice A4 (intsV l).length c4)) := by simp [World.cell?, bL8.out, smV, bs]
              have nf8 : w8.frozen? ⟨w2.heap.size, 8, none⟩ = false := by simp [World.frozen?, bL8.out]
              have nc8 : w8.cell? ⟨w2.heap.size, 8, none⟩ = some (.slice none 0 0) := by simp [World.cell?, bL8.out, smV, bs]
              have HO9 := Lib.hid ((Only.refl w2.heap.size w8).set 8 ((.slice A8 (intsV m).length c8)))
              have P9 := Lib.hid (P8.out.only HO9.out (.inl (.inl (.inr rfl))))
              have K9 := Lib.hid (K8.out.only HO9.out (by have := (P8.out.sLt _ (.inl (.inl (.inr rfl)))).1; omega) (fun e => by have h1 := (H.out.sLt _ e).2; have h2 := hlbw.out; omega))
              have ff9 : w8.frozen? ⟨w2.heap.size, 8, none⟩ = false := by simp [World.frozen?, bL8.out]
              have fc9 : w8.cell? ⟨w2.heap.size, 8, none⟩ = some (.slice none 0 0) := by simp [World.cell?, bL8.out, smV, bs]
              have bA9 := Lib.hid ((HO9.out.block _ (by have h1 := hlbw.out; omega)).trans bA8.out)
              have bL9 := Lib.hid (setCell_at w8 w2.heap.size 8 ((.slice A8 (intsV m).length c8)) _ _ _ bL8.out)
              have L4x9 := Lib.hid (L4x8.out.only HO9.out fun g hg => ⟨hg, fun e => hg.2 (e ▸ .inr rfl)⟩)
              have L8x9 := Lib.hid (L8x8.out.only HO9.out fun g hg => ⟨hg, fun e => hg.2 (e ▸ .inl (.inr rfl))⟩)
              go_wp2_with (refine wpList_store_whole rfl 42 (.tmp 4) (.tmp 29) rfl w.heap.size _ (smV ({ kind := 5, a := (a : Int), thn := l, els := m } : Sm) ((.slice A4 (intsV l).length c4)) ((.slice A8 (intsV m).length c8))).toArray 42 bA9.out rfl rfl rfl Tryz.sizeSm (all_oneCell_toArray (oneS ({ kind := 5, a := (a : Int), thn := l, els := m } : Sm) ((.slice A4 (intsV l).length c4)) ((.slice A8 (intsV m).length c8)) rfl rfl)) ?_; intro w99 ho99 hb99; have HO99 := Lib.hid ho99; have HB99 := Lib.hid hb99; clear ho99 hb99)
              have rc0 : w99.cell? ⟨w.heap.size, 0, none⟩ = some (.int .i64 5) := by simp [World.cell?, HB99.out, smV, bs]
              have rc1 : w99.cell? ⟨w.heap.size, 1, none⟩ = some (.int .i64 0) := by simp [World.cell?, HB99.out, smV, bs]
              have rc2 : w99.cell? ⟨w.heap.size, 2, none⟩ = some (.int .i64 0) := by simp [World.cell?, HB99.out, smV, bs]
              have rc3 : w99.cell? ⟨w.heap.size, 3, none⟩ = some (.string ⟨#[]⟩) := by simp [World.cell?, HB99.out, smV, bs]
              have rc4 : w99.cell? ⟨w.heap.size, 4, none⟩ = some (.int .i64 0) := by simp [World.cell?, HB99.out, smV, bs]
              have rc5 : w99.cell? ⟨w.heap.size, 5, none⟩ = some (.int .i64 (a : Int)) := by simp [World.cell?, HB99.out, smV, bs]
              have rc6 : w99.cell? ⟨w.heap.size, 6, none⟩ = some (.int .i64 0) := by simp [World.cell?, HB99.out, smV, bs]
              have rc7 : w99.cell? ⟨w.heap.size, 7, none⟩ = some ((.slice A4 (intsV l).length c4)) := by simp [World.cell?, HB99.out, smV, bs]
              have rc8 : w99.cell? ⟨w.heap.size, 8, none⟩ = some ((.slice A8 (intsV m).length c8)) := by simp [World.cell?, HB99.out, smV, bs]
              refine bodyPost_ret (v := .agg #[.int .i64 5, .int .i64 0, .int .i64 0, .string ⟨#[]⟩, .int .i64 0, .int .i64 (a : Int), .int .i64 0, (.slice A4 (intsV l).length c4), (.slice A8 (intsV m).length c8)]) (by simp [results, Tryz.results148, go_sem, rc0, rc1, rc2, rc3, rc4, rc5, rc6, rc7, rc8]) rfl ?_
              exact outS_fin (x := ({ kind := 5, a := (a : Int), thn := l, els := m } : Sm)) H.out (P9.out.less (by omega)) (fun _ h => .inl (.inl (h))) (.inl (.inr rfl)) (Nat.le_refl _) HO99.out ⟨rfl, rfl⟩ L4x9.out (L8x9.out.keep (Nat.le_refl _) fun g _ hf _ => ⟨⟨hf.1, fun e => hf.2 (.inl e)⟩, rfl⟩) K9.out

set_option maxRecDepth 100000 in
set_option maxHeartbeats 4000000 in
theorem fields_calls (C : Cx) (S : Nat → Prop) (d : Nat) (s : Sg) (dep : Int) (h0 : 0 ≤ dep) (h1 : dep ≤ 64) (ex sub : Ps Nat) (hp : PartC C 156 dep ex) (hps : PartC C 156 (dep + 1) (expressionM C.T sub)) (hsub : Fine C.T 1 sub) (blk : Ps (List Nat)) (stm : Ps Nat) (hb : BlockC C (dep + 1) blk) (hs : (∀ s a s', blk s ≠ .ok a s') ∨ StmtC C (dep + 1) stm) (w : World) (h : PAt C S d s w) : Calls Tryz.prog 140 #[.pointer (some ⟨C.q, 0, none⟩), .int .i64 dep] w (OutS C S (d + 1) (fieldsM C.T ex sub blk stm s) w) := by
  obtain ⟨R, hR⟩ : ∃ R, fieldsM C.T ex sub blk stm s = R := ⟨_, rfl⟩
  rw [hR]
  have HR := Lib.hid hR
  unfold fieldsM at HR
  have H := Lib.hid h
  clear h hR
  have HP := Lib.hid hp
  have HE := Lib.hid hps
  have HSB := Lib.hid hsub
  have HB := Lib.hid hb
  have HS := Lib.hid hs
  clear hp hps hsub hb hs
  have hwq := H.out.qlt
  have P0 := Lib.hid (H.out.allocA (.cells #[.int .i64 0, .int .i64 0, .int .i64 0, .string ⟨#[]⟩, .int .i64 0, .int .i64 0, .int .i64 0, .slice none 0 0, .slice none 0 0] 42))
  have K0 := Lib.hid (Keep.alloc H.out (.cells #[.int .i64 0, .int .i64 0, .int .i64 0, .string ⟨#[]⟩, .int .i64 0, .int .i64 0, .int .i64 0, .slice none 0 0, .slice none 0 0] 42))
  have bA0 := Lib.hid (heap_one w #[.int .i64 0, .int .i64 0, .int .i64 0, .string ⟨#[]⟩, .int .i64 0, .int .i64 0, .int .i64 0, .slice none 0 0, .slice none 0 0] 42)
  go_enter Tryz.func140, Tryz.ntmps140
  have his := Lib.hid (isL_calls C (Also S w.heap.size) d s [kIf] _ rfl 1 rfl (by decide) _ P0.out (w.heap.size + 1) (by simp))
  cases hb : isP C.T [kIf] s
  · rw [hb] at his
    have HRt1 := Lib.hid ((ifF hb).symm.trans HR.out)
    clear hb HR
    go_wp2_with fail
    refine (his.out).mono ?_
    rintro e w1 ⟨rfl, hB⟩
    have P1 := Lib.hid (P0.out.below hB)
    have K1 := Lib.hid (K0.out.trans ((P0.out.belowK hB).sub (fun _ h => .inl (h))))
    have bA1 := Lib.hid ((hB.block _ (blk_lt bA0.out)).trans bA0.out)
    clear hB
    have his := Lib.hid (isL_calls C (Also S w.heap.size) d s [kWhile] _ rfl 1 rfl (by decide) w1 P1.out _ rfl)
    cases hb : isP C.T [kWhile] s
    · rw [hb] at his
      have HRt2 := Lib.hid ((ifF hb).symm.trans HRt1.out)
      clear hb HRt1
      go_wp2_with fail
      refine (his.out).mono ?_
      rintro e w2 ⟨rfl, hB⟩
      have P2 := Lib.hid (P1.out.below hB)
      have K2 := Lib.hid (K1.out.trans ((P1.out.belowK hB).sub (fun _ h => .inl (h))))
      have bA2 := Lib.hid ((hB.block _ (blk_lt bA1.out)).trans bA1.out)
      clear hB
      go_wp2_with fail
      refine (simple_calls C (Also S w.heap.size) d s dep h0 h1 ex sub HP.out HE.out HSB.out _ P2.out).mono ?_
      intro e w3 h3
      generalize hr : simpleM C.T ex sub s = r at h3
      cases r with
      | no c i =>
        obtain rfl : R = .no c i := HRt2.out.symm.trans (bd_no hr)
        clear hr
        obtain rfl := h3.1
        go_wp2
        exact ⟨rfl, bad_of h3 K2.out (fun _ h => .inl (h))⟩
      | ok x s3 =>
        have HR3 := Lib.hid ((bd_ok hr).symm.trans HRt2.out)
        clear hr HRt2
        obtain ⟨kd3, lo3, hi3, nm3, nu3, a3, b3, th3, el3⟩ := x
        obtain ⟨v3, u3, rfl, hlo, hhi, hl, hm, hp, hk⟩ := h3
        dsimp only at hlo hhi hl hm
        subst hlo hhi
        obtain ⟨A3, c3, rfl⟩ : ∃ A c, v3 = .slice A (intsV th3).length c := by obtain ⟨A, c, e, _⟩ := hl; exact ⟨A, _, e⟩
        obtain ⟨E3, f3, rfl⟩ : ∃ A c, u3 = .slice A (intsV el3).length c := by obtain ⟨A, c, e, _⟩ := hm; exact ⟨A, _, e⟩
        have P3 := Lib.hid hp
        have K3 := Lib.hid (K2.out.trans (hk.sub (fun _ h => .inl (h))))
        have bA3 := Lib.hid ((hk.kept _ (.inr rfl)).trans bA2.out)
        have L3x3 := Lib.hid hl
        have M3x3 := Lib.hid hm
        clear hl hm hp hk
        have hlbw : Hid (w.heap.size < w3.heap.size) := Lib.hid (blk_lt bA3.out)
        go_wp2_with (refine wpList_store_whole rfl 42 (.tmp 5) (.tmp 22) rfl w3.heap.size #[.int .i64 0, .int .i64 0, .int .i64 0, .string ⟨#[]⟩, .int .i64 0, .int .i64 0, .int .i64 0, .slice none 0 0, .slice none 0 0] (smV (⟨kd3, 0, 0, nm3, nu3, a3, b3, th3, el3⟩ : Sm) ((.slice A3 (intsV th3).length c3)) ((.slice E3 (intsV el3).length f3))).toArray 42 (heap_one w3 _ _) rfl rfl rfl Tryz.sizeSm (all_oneCell_toArray (oneS (⟨kd3, 0, 0, nm3, nu3, a3, b3, th3, el3⟩ : Sm) ((.slice A3 (intsV th3).length c3)) ((.slice E3 (intsV el3).length f3)) rfl rfl)) ?_; intro w4 ho4 hb4; have HO4 := Lib.hid ho4; have bL4 := Lib.hid hb4; clear ho4 hb4)
        have P4 := Lib.hid ((P3.out.allocA (.cells #[.int .i64 0, .int .i64 0, .int .i64 0, .string ⟨#[]⟩, .int .i64 0, .int .i64 0, .int .i64 0, .slice none 0 0, .slice none 0 0] 42)).only HO4.out (.inr rfl))
        have K4 := Lib.hid ((K3.out.trans ((Keep.alloc P3.out (.cells #[.int .i64 0, .int .i64 0, .int .i64 0, .string ⟨#[]⟩, .int .i64 0, .int .i64 0, .int .i64 0, .slice none 0 0, .slice none 0 0] 42)).sub (fun _ h => .inl (.inl (.inl (h)))))).only HO4.out (by have := P3.out.qlt; omega) (fun e => by have h1 := (H.out.sLt _ e).2; have h2 := K3.out.below.size; omega))
        have bA4 := Lib.hid ((HO4.out.block _ (by have := blk_lt bA3.out; omega)).trans ((Below.heap_alloc _ _ _ (blk_lt bA3.out)).trans bA3.out))
        have L3x4 := Lib.hid (L3x3.out.keep (by rw [HO4.out.size]; simp) fun g _ hf hlt => ⟨hf, (HO4.out.block g (by omega)).trans (Below.heap_alloc _ _ _ hlt)⟩)
        have M3x4 := Lib.hid (M3x3.out.keep (by rw [HO4.out.size]; simp) fun g _ hf hlt => ⟨hf, (HO4.out.block g (by omega)).trans (Below.heap_alloc _ _ _ hlt)⟩)
        go_wp2_with fail
        refine (takeL_calls C (Also (With (With (Also S w.heap.size) (.slice A3 (intsV th3).length c3)) (.slice E3 (intsV el3).length f3)) w3.heap.size) (d + 1) s3 [[59]] _ rfl 1 rfl (by decide) (by decide) w4 P4.out _ rfl).mono ?_
        intro e w5 h5
        generalize hr : takeP C.T [[59]] s3 = r at h5
        cases r with
        | no c i =>
          obtain rfl : R = .no c i := HR3.out.symm.trans (bd_no hr)
          clear hr
          obtain rfl := h5.1
          go_wp2
          exact ⟨rfl, bad_of h5 K4.out (fun _ h => .inl (.inl (.inl (.inl (h)))))⟩
        | ok o s5 =>
          have HR5 := Lib.hid ((bd_ok hr).symm.trans HR3.out)
          clear hr HR3
          obtain ⟨rfl, hp, hk⟩ := h5
          have P5 := Lib.hid hp
          have K5 := Lib.hid (K4.out.trans (hk.sub (fun _ h => .inl (.inl (.inl (.inl (h)))))))
          have bA5 := Lib.hid ((hk.kept _ (.inl (.inl (.inl (.inr rfl))))).trans bA4.out)
          have bL5 := Lib.hid ((hk.kept _ (.inr rfl)).trans bL4.out)
          have L3x5 := Lib.hid (L3x4.out.keep hk.below.size fun g hg hf _ => ⟨hf, hk.kept g (.inl (.inl (.inr hg)))⟩)
          have M3x5 := Lib.hid (M3x4.out.keep hk.below.size fun g hg hf _ => ⟨hf, hk.kept g (.inl (.inr hg))⟩)
          clear hp hk
          unfold strV
          obtain rfl : R = .ok (⟨kd3, 0, 0, nm3, nu3, a3, b3, th3, el3⟩ : Sm) s5 := HR5.out.symm
          have lf0 : w5.frozen? ⟨w3.heap.size, 0, none⟩ = false := by simp [World.frozen?, bL5.out]
          have lc0 : w5.cell? ⟨w3.heap.size, 0, none⟩ = some (.int .i64 (kd3 : Int)) := by simp [World.cell?, bL5.out, smV, bs]
          have lf1 : w5.frozen? ⟨w3.heap.size, 1, none⟩ = false := by simp [World.frozen?, bL5.out]
          have lc1 : w5.cell? ⟨w3.heap.size, 1, none⟩ = some (.int .i64 0) := by simp [World.cell?, bL5.out, smV, bs]
          have lf2 : w5.frozen? ⟨w3.heap.size, 2, none⟩ = false := by simp [World.frozen?, bL5.out]
          have lc2 : w5.cell? ⟨w3.heap.size, 2, none⟩ = some (.int .i64 0) := by simp [World.cell?, bL5.out, smV, bs]
          have lf3 : w5.frozen? ⟨w3.heap.size, 3, none⟩ = false := by simp [World.frozen?, bL5.out]
          have lc3 : w5.cell? ⟨w3.heap.size, 3, none⟩ = some (.string (bs nm3)) := by simp [World.cell?, bL5.out, smV, bs]
          have lf4 : w5.frozen? ⟨w3.heap.size, 4, none⟩ = false := by simp [World.frozen?, bL5.out]
          have lc4 : w5.cell? ⟨w3.heap.size, 4, none⟩ = some (.int .i64 (nu3 : Int)) := by simp [World.cell?, bL5.out, smV, bs]
          have lf5 : w5.frozen? ⟨w3.heap.size, 5, none⟩ = false := by simp [World.frozen?, bL5.out]
          have lc5 : w5.cell? ⟨w3.heap.size, 5, none⟩ = some (.int .i64 a3) := by simp [World.cell?, bL5.out, smV, bs]
          have lf6 : w5.frozen? ⟨w3.heap.size, 6, none⟩ = false := by simp [World.frozen?, bL5.out]
          have lc6 : w5.cell? ⟨w3.heap.size, 6, none⟩ = some (.int .i64 (b3 : Int)) := by simp [World.cell?, bL5.out, smV, bs]
          have lf7 : w5.frozen? ⟨w3.heap.size, 7, none⟩ = false := by simp [World.frozen?, bL5.out]
          have lc7 : w5.cell? ⟨w3.heap.size, 7, none⟩ = some ((.slice A3 (intsV th3).length c3)) := by simp [World.cell?, bL5.out, smV, bs]
          have lf8 : w5.frozen? ⟨w3.heap.size, 8, none⟩ = false := by simp [World.frozen?, bL5.out]
          have lc8 : w5.cell? ⟨w3.heap.size, 8, none⟩ = some ((.slice E3 (intsV el3).length f3)) := by simp [World.cell?, bL5.out, smV, bs]
          go_wp2_with (refine wpList_store_whole rfl 42 (.tmp 4) (.tmp 26) rfl w.heap.size _ (smV (⟨kd3, 0, 0, nm3, nu3, a3, b3, th3, el3⟩ : Sm) ((.slice A3 (intsV th3).length c3)) ((.slice E3 (intsV el3).length f3))).toArray 42 bA5.out rfl rfl rfl Tryz.sizeSm (all_oneCell_toArray (oneS (⟨kd3, 0, 0, nm3, nu3, a3, b3, th3, el3⟩ : Sm) ((.slice A3 (intsV th3).length c3)) ((.slice E3 (intsV el3).length f3)) rfl rfl)) ?_; intro w99 ho99 hb99; have HO99 := Lib.hid ho99; have HB99 := Lib.hid hb99; clear ho99 hb99)
          have rc0 : w99.cell? ⟨w.heap.size, 0, none⟩ = some (.int .i64 (kd3 : Int)) := by simp [World.cell?, HB99.out, smV, bs]
          have rc1 : w99.cell? ⟨w.heap.size, 1, none⟩ = some (.int .i64 0) := by simp [World.cell?, HB99.out, smV, bs]
          have rc2 : w99.cell? ⟨w.heap.size, 2, none⟩ = some (.int .i64 0) := by simp [World.cell?, HB99.out, smV, bs]
          have rc3 : w99.cell? ⟨w.heap.size, 3, none⟩ = some (.string (bs nm3)) := by simp [World.cell?, HB99.out, smV, bs]
          have rc4 : w99.cell? ⟨w.heap.size, 4, none⟩ = some (.int .i64 (nu3 : Int)) := by simp [World.cell?, HB99.out, smV, bs]
          have rc5 : w99.cell? ⟨w.heap.size, 5, none⟩ = some (.int .i64 a3) := by simp [World.cell?, HB99.out, smV, bs]
          have rc6 : w99.cell? ⟨w.heap.size, 6, none⟩ = some (.int .i64 (b3 : Int)) := by simp [World.cell?, HB99.out, smV, bs]
          have rc7 : w99.cell? ⟨w.heap.size, 7, none⟩ = some ((.slice A3 (intsV th3).length c3)) := by simp [World.cell?, HB99.out, smV, bs]
          have rc8 : w99.cell? ⟨w.heap.size, 8, none⟩ = some ((.slice E3 (intsV el3).length f3)) := by simp [World.cell?, HB99.out, smV, bs]
          refine bodyPost_ret (v := .agg #[.int .i64 (kd3 : Int), .int .i64 0, .int .i64 0, .string (bs nm3), .int .i64 (nu3 : Int), .int .i64 a3, .int .i64 (b3 : Int), (.slice A3 (intsV th3).length c3), (.slice E3 (intsV el3).length f3)]) (by simp [results, Tryz.results140, go_sem, rc0, rc1, rc2, rc3, rc4, rc5, rc6, rc7, rc8]) rfl ?_
          exact outS_fin (x := (⟨kd3, 0, 0, nm3, nu3, a3, b3, th3, el3⟩ : Sm)) H.out ((P5.out.less (by omega)).sub (fun _ h => .inl h)) (fun _ h => .inl (h)) (.inr rfl) (Nat.le_refl _) HO99.out ⟨rfl, rfl⟩ L3x5.out M3x5.out K5.out
    · rw [hb] at his
      have HRt2 := Lib.hid ((ifT hb).symm.trans HRt1.out)
      have hbT := Lib.hid hb
      clear hb HRt1
      go_wp2_with fail
      refine (his.out).mono ?_
      rintro e w2 ⟨rfl, hB⟩
      have P2 := Lib.hid (P1.out.below hB)
      have K2 := Lib.hid (K1.out.trans ((P1.out.belowK hB).sub (fun _ h => .inl (h))))
      have bA2 := Lib.hid ((hB.block _ (blk_lt bA1.out)).trans bA1.out)
      clear hB
      go_wp2_with fail
      refine (loop_calls C (Also S w.heap.size) d s dep h0 h1 ex blk HP.out HB.out _ P2.out).mono ?_
      intro e w3 h3
      generalize hr : loopM C.T ex blk s = r at h3
      cases r with
      | no c i =>
        obtain rfl : R = .no c i := HRt2.out.symm.trans (hr)
        clear hr
        obtain rfl := h3.1
        go_wp2
        exact ⟨rfl, bad_of h3 K2.out (fun _ h => .inl (h))⟩
      | ok x s3 =>
        obtain rfl : R = .ok x s3 := HRt2.out.symm.trans hr
        clear hr HRt2
        obtain ⟨kd3, lo3, hi3, nm3, nu3, a3, b3, th3, el3⟩ := x
        obtain ⟨v3, u3, rfl, hlo, hhi, hl, hm, hp, hk⟩ := h3
        dsimp only at hlo hhi hl hm
        subst hlo hhi
        obtain ⟨A3, c3, rfl⟩ : ∃ A c, v3 = .slice A (intsV th3).length c := by obtain ⟨A, c, e, _⟩ := hl; exact ⟨A, _, e⟩
        obtain ⟨E3, f3, rfl⟩ : ∃ A c, u3 = .slice A (intsV el3).length c := by obtain ⟨A, c, e, _⟩ := hm; exact ⟨A, _, e⟩
        have P3 := Lib.hid hp
        have K3 := Lib.hid (K2.out.trans (hk.sub (fun _ h => .inl (h))))
        have bA3 := Lib.hid ((hk.kept _ (.inr rfl)).trans bA2.out)
        have L3x3 := Lib.hid hl
        have M3x3 := Lib.hid hm
        clear hl hm hp hk
        go_wp2_with (refine wpList_store_whole rfl 42 (.tmp 4) (.tmp 19) rfl w.heap.size _ (smV (⟨kd3, 0, 0, nm3, nu3, a3, b3, th3, el3⟩ : Sm) ((.slice A3 (intsV th3).length c3)) ((.slice E3 (intsV el3).length f3))).toArray 42 bA3.out rfl rfl rfl Tryz.sizeSm (all_oneCell_toArray (oneS (⟨kd3, 0, 0, nm3, nu3, a3, b3, th3, el3⟩ : Sm) ((.slice A3 (intsV th3).length c3)) ((.slice E3 (intsV el3).length f3)) rfl rfl)) ?_; intro w99 ho99 hb99; have HO99 := Lib.hid ho99; have HB99 := Lib.hid hb99; clear ho99 hb99)
        have rc0 : w99.cell? ⟨w.heap.size, 0, none⟩ = some (.int .i64 (kd3 : Int)) := by simp [World.cell?, HB99.out, smV, bs]
        have rc1 : w99.cell? ⟨w.heap.size, 1, none⟩ = some (.int .i64 0) := by simp [World.cell?, HB99.out, smV, bs]
        have rc2 : w99.cell? ⟨w.heap.size, 2, none⟩ = some (.int .i64 0) := by simp [World.cell?, HB99.out, smV, bs]
        have rc3 : w99.cell? ⟨w.heap.size, 3, none⟩ = some (.string (bs nm3)) := by simp [World.cell?, HB99.out, smV, bs]
        have rc4 : w99.cell? ⟨w.heap.size, 4, none⟩ = some (.int .i64 (nu3 : Int)) := by simp [World.cell?, HB99.out, smV, bs]
        have rc5 : w99.cell? ⟨w.heap.size, 5, none⟩ = some (.int .i64 a3) := by simp [World.cell?, HB99.out, smV, bs]
        have rc6 : w99.cell? ⟨w.heap.size, 6, none⟩ = some (.int .i64 (b3 : Int)) := by simp [World.cell?, HB99.out, smV, bs]
        have rc7 : w99.cell? ⟨w.heap.size, 7, none⟩ = some ((.slice A3 (intsV th3).length c3)) := by simp [World.cell?, HB99.out, smV, bs]
        have rc8 : w99.cell? ⟨w.heap.size, 8, none⟩ = some ((.slice E3 (intsV el3).length f3)) := by simp [World.cell?, HB99.out, smV, bs]
        refine bodyPost_ret (v := .agg #[.int .i64 (kd3 : Int), .int .i64 0, .int .i64 0, .string (bs nm3), .int .i64 (nu3 : Int), .int .i64 a3, .int .i64 (b3 : Int), (.slice A3 (intsV th3).length c3), (.slice E3 (intsV el3).length f3)]) (by simp [results, Tryz.results140, go_sem, rc0, rc1, rc2, rc3, rc4, rc5, rc6, rc7, rc8]) rfl ?_
        exact outS_fin (x := (⟨kd3, 0, 0, nm3, nu3, a3, b3, th3, el3⟩ : Sm)) H.out (P3.out.less (by omega)) (fun _ h => .inl (h)) (.inr rfl) (Nat.le_refl _) HO99.out ⟨rfl, rfl⟩ L3x3.out M3x3.out K3.out
  · rw [hb] at his
    have HRt1 := Lib.hid ((ifT hb).symm.trans HR.out)
    have hbT := Lib.hid hb
    clear hb HR
    go_wp2_with fail
    refine (his.out).mono ?_
    rintro e w1 ⟨rfl, hB⟩
    have P1 := Lib.hid (P0.out.below hB)
    have K1 := Lib.hid (K0.out.trans ((P0.out.belowK hB).sub (fun _ h => .inl (h))))
    have bA1 := Lib.hid ((hB.block _ (blk_lt bA0.out)).trans bA0.out)
    clear hB
    go_wp2_with fail
    refine (choice_calls C (Also S w.heap.size) d s dep h0 h1 ex blk stm HP.out HB.out HS.out _ P1.out).mono ?_
    intro e w2 h2
    generalize hr : choiceM C.T ex blk stm s = r at h2
    cases r with
    | no c i =>
      obtain rfl : R = .no c i := HRt1.out.symm.trans (hr)
      clear hr
      obtain rfl := h2.1
      go_wp2
      exact ⟨rfl, bad_of h2 K1.out (fun _ h => .inl (h))⟩
    | ok x s2 =>
      obtain rfl : R = .ok x s2 := HRt1.out.symm.trans hr
      clear hr HRt1
      obtain ⟨kd2, lo2, hi2, nm2, nu2, a2, b2, th2, el2⟩ := x
      obtain ⟨v2, u2, rfl, hlo, hhi, hl, hm, hp, hk⟩ := h2
      dsimp only at hlo hhi hl hm
      subst hlo hhi
      obtain ⟨A2, c2, rfl⟩ : ∃ A c, v2 = .slice A (intsV th2).length c := by obtain ⟨A, c, e, _⟩ := hl; exact ⟨A, _, e⟩
      obtain ⟨E2, f2, rfl⟩ : ∃ A c, u2 = .slice A (intsV el2).length c := by obtain ⟨A, c, e, _⟩ := hm; exact ⟨A, _, e⟩
      have P2 := Lib.hid hp
      have K2 := Lib.hid (K1.out.trans (hk.sub (fun _ h => .inl (h))))
      have bA2 := Lib.hid ((hk.kept _ (.inr rfl)).trans bA1.out)
      have L2x2 := Lib.hid hl
      have M2x2 := Lib.hid hm
      clear hl hm hp hk
      go_wp2_with (refine wpList_store_whole rfl 42 (.tmp 4) (.tmp 12) rfl w.heap.size _ (smV (⟨kd2, 0, 0, nm2, nu2, a2, b2, th2, el2⟩ : Sm) ((.slice A2 (intsV th2).length c2)) ((.slice E2 (intsV el2).length f2))).toArray 42 bA2.out rfl rfl rfl Tryz.sizeSm (all_oneCell_toArray (oneS (⟨kd2, 0, 0, nm2, nu2, a2, b2, th2, el2⟩ : Sm) ((.slice A2 (intsV th2).length c2)) ((.slice E2 (intsV el2).length f2)) rfl rfl)) ?_; intro w99 ho99 hb99; have HO99 := Lib.hid ho99; have HB99 := Lib.hid hb99; clear ho99 hb99)
      have rc0 : w99.cell? ⟨w.heap.size, 0, none⟩ = some (.int .i64 (kd2 : Int)) := by simp [World.cell?, HB99.out, smV, bs]
      have rc1 : w99.cell? ⟨w.heap.size, 1, none⟩ = some (.int .i64 0) := by simp [World.cell?, HB99.out, smV, bs]
      have rc2 : w99.cell? ⟨w.heap.size, 2, none⟩ = some (.int .i64 0) := by simp [World.cell?, HB99.out, smV, bs]
      have rc3 : w99.cell? ⟨w.heap.size, 3, none⟩ = some (.string (bs nm2)) := by simp [World.cell?, HB99.out, smV, bs]
      have rc4 : w99.cell? ⟨w.heap.size, 4, none⟩ = some (.int .i64 (nu2 : Int)) := by simp [World.cell?, HB99.out, smV, bs]
      have rc5 : w99.cell? ⟨w.heap.size, 5, none⟩ = some (.int .i64 a2) := by simp [World.cell?, HB99.out, smV, bs]
      have rc6 : w99.cell? ⟨w.heap.size, 6, none⟩ = some (.int .i64 (b2 : Int)) := by simp [World.cell?, HB99.out, smV, bs]
      have rc7 : w99.cell? ⟨w.heap.size, 7, none⟩ = some ((.slice A2 (intsV th2).length c2)) := by simp [World.cell?, HB99.out, smV, bs]
      have rc8 : w99.cell? ⟨w.heap.size, 8, none⟩ = some ((.slice E2 (intsV el2).length f2)) := by simp [World.cell?, HB99.out, smV, bs]
      refine bodyPost_ret (v := .agg #[.int .i64 (kd2 : Int), .int .i64 0, .int .i64 0, .string (bs nm2), .int .i64 (nu2 : Int), .int .i64 a2, .int .i64 (b2 : Int), (.slice A2 (intsV th2).length c2), (.slice E2 (intsV el2).length f2)]) (by simp [results, Tryz.results140, go_sem, rc0, rc1, rc2, rc3, rc4, rc5, rc6, rc7, rc8]) rfl ?_
      exact outS_fin (x := (⟨kd2, 0, 0, nm2, nu2, a2, b2, th2, el2⟩ : Sm)) H.out (P2.out.less (by omega)) (fun _ h => .inl (h)) (.inr rfl) (Nat.le_refl _) HO99.out ⟨rfl, rfl⟩ L2x2.out M2x2.out K2.out

set_option maxRecDepth 100000 in
set_option maxHeartbeats 4000000 in
theorem statement_calls (C : Cx) (S : Nat → Prop) (d : Nat) (s : Sg) (dep : Int) (h0 : 0 ≤ dep) (h1 : dep ≤ 64) (ex sub : Ps Nat) (hp : PartC C 156 dep ex) (hps : PartC C 156 (dep + 1) (expressionM C.T sub)) (hsub : Fine C.T 1 sub) (blk : Ps (List Nat)) (stm : Ps Nat) (hb : BlockC C (dep + 1) blk) (hs : (∀ s a s', blk s ≠ .ok a s') ∨ StmtC C (dep + 1) stm) (w : World) (h : PAt C S d s w) : Calls Tryz.prog 131 #[.pointer (some ⟨C.q, 0, none⟩), .int .i64 dep] w (OutP C S d natV (stmtS C.T ex sub blk stm s) w) := by
  obtain ⟨R, hR⟩ : ∃ R, stmtS C.T ex sub blk stm s = R := ⟨_, rfl⟩
  rw [hR]
  have HR := Lib.hid hR
  unfold stmtS at HR
  have H := Lib.hid h
  clear h hR
  have HP := Lib.hid hp
  have HE := Lib.hid hps
  have HSB := Lib.hid hsub
  have HB := Lib.hid hb
  have HS := Lib.hid hs
  clear hp hps hsub hb hs
  have hfr := Lib.hid (from_calls C S d s w H.out)
  generalize hlo : (cur C.T s).lo = lo at HR
  rw [hlo] at hfr
  clear hlo
  have hwq := H.out.qlt
  have K0 := Lib.hid (Keep.refl C S w)
  go_enter Tryz.func131, Tryz.ntmps131
  go_wp2_with fail
  refine (hfr.out).mono ?_
  rintro e w1 ⟨rfl, hB⟩
  have P1 := Lib.hid (H.out.below hB)
  have K1 := Lib.hid (K0.out.trans ((H.out.belowK hB).sub (fun _ h => h)))
  clear hB
  go_wp2_with fail
  refine (fields_calls C S d s dep h0 h1 ex sub HP.out HE.out HSB.out blk stm HB.out HS.out _ P1.out).mono ?_
  intro e w2 h2
  generalize hr : fieldsM C.T ex sub blk stm s = r at h2
  cases r with
  | no c i =>
    obtain rfl : R = .no c i := HR.out.symm.trans (bd_no hr)
    clear hr
    obtain rfl := h2.1
    go_wp2
    exact ⟨rfl, bad_of h2 K1.out (fun _ h => h)⟩
  | ok x s2 =>
    have HR2 := Lib.hid ((bd_ok hr).symm.trans HR.out)
    clear hr HR
    obtain ⟨kd2, lo2, hi2, nm2, nu2, a2, b2, th2, el2⟩ := x
    obtain ⟨v2, u2, rfl, hlo, hhi, hl, hm, hp, hk⟩ := h2
    dsimp only at hlo hhi hl hm
    subst hlo hhi
    obtain ⟨A2, c2, rfl⟩ : ∃ A c, v2 = .slice A (intsV th2).length c := by obtain ⟨A, c, e, _⟩ := hl; exact ⟨A, _, e⟩
    obtain ⟨E2, f2, rfl⟩ : ∃ A c, u2 = .slice A (intsV el2).length c := by obtain ⟨A, c, e, _⟩ := hm; exact ⟨A, _, e⟩
    have P2 := Lib.hid hp
    have K2 := Lib.hid (K1.out.trans (hk.sub (fun _ h => h)))
    have L2x2 := Lib.hid hl
    have M2x2 := Lib.hid hm
    clear hl hm hp hk
    have HLl := Lib.hid L2x2.out.lt
    have HLm := Lib.hid M2x2.out.lt
    have HLB9 := Lib.hid K2.out.below.size
    go_wp2_with (refine wpList_store_whole rfl 42 (.tmp 6) (.tmp 11) rfl w2.heap.size #[.int .i64 0, .int .i64 0, .int .i64 0, .string ⟨#[]⟩, .int .i64 0, .int .i64 0, .int .i64 0, .slice none 0 0, .slice none 0 0] (smV (⟨kd2, 0, 0, nm2, nu2, a2, b2, th2, el2⟩ : Sm) ((.slice A2 (intsV th2).length c2)) ((.slice E2 (intsV el2).length f2))).toArray 42 (heap_one w2 _ _) rfl rfl rfl Tryz.sizeSm (all_oneCell_toArray (oneS (⟨kd2, 0, 0, nm2, nu2, a2, b2, th2, el2⟩ : Sm) ((.slice A2 (intsV th2).length c2)) ((.slice E2 (intsV el2).length f2)) rfl rfl)) ?_; intro w3 ho3 hb3; have HO3 := Lib.hid ho3; have bL3 := Lib.hid hb3; clear ho3 hb3)
    have P3 := Lib.hid ((P2.out.allocA (.cells #[.int .i64 0, .int .i64 0, .int .i64 0, .string ⟨#[]⟩, .int .i64 0, .int .i64 0, .int .i64 0, .slice none 0 0, .slice none 0 0] 42)).only HO3.out (.inr rfl))
    have K3 := Lib.hid ((K2.out.trans ((Keep.alloc P2.out (.cells #[.int .i64 0, .int .i64 0, .int .i64 0, .string ⟨#[]⟩, .int .i64 0, .int .i64 0, .int .i64 0, .slice none 0 0, .slice none 0 0] 42)).sub (fun _ h => .inl (.inl (h))))).only HO3.out (by have := P2.out.qlt; omega) (fun e => by have h1 := (H.out.sLt _ e).2; have h2 := K2.out.below.size; omega))
    have L2x3 := Lib.hid (L2x2.out.keep (by rw [HO3.out.size]; simp) fun g _ hf hlt => ⟨hf, (HO3.out.block g (by omega)).trans (Below.heap_alloc _ _ _ hlt)⟩)
    have M2x3 := Lib.hid (M2x2.out.keep (by rw [HO3.out.size]; simp) fun g _ hf hlt => ⟨hf, (HO3.out.block g (by omega)).trans (Below.heap_alloc _ _ _ hlt)⟩)
    have hsi := Lib.hid (since_calls C (Also (With (With S (.slice A2 (intsV th2).length c2)) (.slice E2 (intsV el2).length f2)) w2.heap.size) d s2 (lo : Int) _ P3.out)
    have hR9 := HR2.out
    unfold putS at hR9
    generalize lastHi C.T s2 = hi' at hsi hR9
    have HR9 := Lib.hid hR9
    clear hR9 HR2
    go_wp2_with fail
    refine (hsi.out).mono ?_
    rintro e w4 ⟨rfl, hB⟩
    have P4 := Lib.hid (P3.out.below hB)
    have K4 := Lib.hid (K3.out.trans ((P3.out.belowK hB).sub (fun _ h => .inl (.inl (.inl (h))))))
    have bL4 := Lib.hid ((hB.block _ (blk_lt bL3.out)).trans bL3.out)
    have L2x4 := Lib.hid (L2x3.out.keep hB.size fun g _ hf hlt => ⟨hf, hB.block g hlt⟩)
    have M2x4 := Lib.hid (M2x3.out.keep hB.size fun g _ hf hlt => ⟨hf, hB.block g hlt⟩)
    clear hB
    have lf0 : w4.frozen? ⟨w2.heap.size, 0, none⟩ = false := by simp [World.frozen?, bL4.out]
    have lc0 : w4.cell? ⟨w2.heap.size, 0, none⟩ = some (.int .i64 (kd2 : Int)) := by simp [World.cell?, bL4.out, smV, bs]
    have lf1 : w4.frozen? ⟨w2.heap.size, 1, none⟩ = false := by simp [World.frozen?, bL4.out]
    have lc1 : w4.cell? ⟨w2.heap.size, 1, none⟩ = some (.int .i64 0) := by simp [World.cell?, bL4.out, smV, bs]
    have lf2 : w4.frozen? ⟨w2.heap.size, 2, none⟩ = false := by simp [World.frozen?, bL4.out]
    have lc2 : w4.cell? ⟨w2.heap.size, 2, none⟩ = some (.int .i64 0) := by simp [World.cell?, bL4.out, smV, bs]
    have lf3 : w4.frozen? ⟨w2.heap.size, 3, none⟩ = false := by simp [World.frozen?, bL4.out]
    have lc3 : w4.cell? ⟨w2.heap.size, 3, none⟩ = some (.string (bs nm2)) := by simp [World.cell?, bL4.out, smV, bs]
    have lf4 : w4.frozen? ⟨w2.heap.size, 4, none⟩ = false := by simp [World.frozen?, bL4.out]
    have lc4 : w4.cell? ⟨w2.heap.size, 4, none⟩ = some (.int .i64 (nu2 : Int)) := by simp [World.cell?, bL4.out, smV, bs]
    have lf5 : w4.frozen? ⟨w2.heap.size, 5, none⟩ = false := by simp [World.frozen?, bL4.out]
    have lc5 : w4.cell? ⟨w2.heap.size, 5, none⟩ = some (.int .i64 a2) := by simp [World.cell?, bL4.out, smV, bs]
    have lf6 : w4.frozen? ⟨w2.heap.size, 6, none⟩ = false := by simp [World.frozen?, bL4.out]
    have lc6 : w4.cell? ⟨w2.heap.size, 6, none⟩ = some (.int .i64 (b2 : Int)) := by simp [World.cell?, bL4.out, smV, bs]
    have lf7 : w4.frozen? ⟨w2.heap.size, 7, none⟩ = false := by simp [World.frozen?, bL4.out]
    have lc7 : w4.cell? ⟨w2.heap.size, 7, none⟩ = some ((.slice A2 (intsV th2).length c2)) := by simp [World.cell?, bL4.out, smV, bs]
    have lf8 : w4.frozen? ⟨w2.heap.size, 8, none⟩ = false := by simp [World.frozen?, bL4.out]
    have lc8 : w4.cell? ⟨w2.heap.size, 8, none⟩ = some ((.slice E2 (intsV el2).length f2)) := by simp [World.cell?, bL4.out, smV, bs]
    have HP9 := Lib.hid (fun W (ho : Only w2.heap.size w4 W) => putS_calls C S d s2 (⟨kd2, lo, hi', nm2, nu2, a2, b2, th2, el2⟩ : Sm) (.slice A2 (intsV th2).length c2) (.slice E2 (intsV el2).length f2) W ((P4.out.only ho (.inr rfl)).sub (fun _ h => .inl h)) (L2x4.out.keep (by rw [ho.size]; exact Nat.le_refl _) fun g hg hf _ => ⟨hf, ho.block g (Nat.ne_of_lt (HLl.out g hg))⟩) (M2x4.out.keep (by rw [ho.size]; exact Nat.le_refl _) fun g hg hf _ => ⟨hf, ho.block g (Nat.ne_of_lt (HLm.out g hg))⟩))
    have HK9 := Lib.hid (fun W (ho : Only w2.heap.size w4 W) => K4.out.only ho (by have := (P4.out.sLt _ (.inr rfl)).1; omega) (fun e => by have h1 := (H.out.sLt _ e).2; have h2 := HLB9.out; omega))
    go_wp2
    go_region_with (go_at_call 141; refine (HP9.out _ ((((Only.refl _ _).set 1 _).set 2 _).drew)).mono ?_; intro e w98 h98; obtain ⟨rfl, h3⟩ := h98; have H98 := Lib.hid h3; clear h3; unfold natV)
    all_goals
      go_wp2
      go_ret
      obtain rfl : R = _ := HR9.out.symm
      exact ⟨rfl, H98.out.1, (HK9.out _ ((((Only.refl _ _).set 1 _).set 2 _).drew)).trans H98.out.2⟩

set_option maxRecDepth 100000 in
set_option maxHeartbeats 1000000 in
theorem block_calls (C : Cx) (S : Nat → Prop) (d : Nat) (s : Sg) (dep : Int) (h1 : dep ≤ 64) (one : Ps Nat) (ho : StmtC C dep one) (hf : Fine C.T 1 one) (w : World) (h : PAt C S d s w) :
    Calls Tryz.prog 108 #[.pointer (some ⟨C.q, 0, none⟩), .int .i64 dep] w (OutL C S (d + 2) intsV (blockS C.T one s) w) := by
  obtain ⟨i0, hi0, hz0, hz1, hz2⟩ := info_parts Tryz.infoInt
  have HO := Lib.hid ho
  have HF := Lib.hid hf
  obtain ⟨R, hR⟩ : ∃ R, blockS C.T one s = R := ⟨_, rfl⟩
  rw [hR]
  have HR := Lib.hid hR
  unfold blockS at HR
  have H := Lib.hid h
  have hq := h.qlt
  have hwi := Lib.hid (within_ok C dep h1 w)
  clear h ho hf hR
  go_enter Tryz.func108, Tryz.ntmps108
  go_wp2_with fail
  refine hwi.out.mono ?_
  rintro e w0 ⟨rfl, rfl⟩
  go_wp2_with fail
  refine (takeL_calls C S d s [[123]] _ rfl 1 rfl (by decide) (by decide) w H.out _ (by simp)).mono ?_
  intro e w1 h1
  generalize hr : takeP C.T [[123]] s = r at h1
  cases r with
  | no c i =>
    obtain rfl : R = .no c i := HR.out.symm.trans (bd_no hr)
    clear hr
    obtain rfl := h1.1
    go_wp2
    exact ⟨rfl, h1.toL (Keep.refl C S w) fun _ h => h⟩
  | ok o s1 =>
    have HR1 := Lib.hid ((bd_ok hr).symm.trans HR.out)
    clear hr HR
    obtain ⟨rfl, hp, hk⟩ := h1
    have hw1 := hk.below.size
    have P1 := Lib.hid hp
    have K1 := Lib.hid hk
    clear hp hk
    obtain ⟨R2, hR2⟩ : ∃ R2, blockL C.T one (C.T.length + 1) [] s1 = R2 := ⟨_, rfl⟩
    have HL := Lib.hid hR2
    have HRR : Hid (Leads R2 (fun l => bd (takeP C.T [[125]]) fun _ => okP l) R) := Lib.hid (by
      cases R2 with
      | no c i => exact HR1.out.symm.trans (bd_no hR2)
      | ok l s' => exact (bd_ok hR2).symm.trans HR1.out)
    clear hR2 HR1
    unfold strV
    go_wp2
    go_loopw [5] (fun v wr => ∃ (n : Nat) (out : List Nat) (s' : Sg), ListI C S (d + 1) 3 intsV (blockL C.T one) R2 w n out s' v wr) (fun _ wr => C.T.length - atOf C.q wr)
    case atStart => exact ⟨C.T.length + 1, [], s1, P1.out.sub fun _ h => with_nil h, K1.out, HL.out, by omega, own_nil _ _ _, Nat.zero_le _⟩
    case round =>
      obtain ⟨n, out, s2, h1, h2, h3, h4, h5, h6⟩ := hrel
      have hlt := h1.lt
      have hlen := h1.len
      have P2 := Lib.hid h1
      have K2 := Lib.hid h2
      have HR2 := Lib.hid h3
      have hat := Lib.hid h1.atOf
      have hown := Lib.hid h5
      have hws := h2.below.size
      obtain ⟨A, cv, rfl⟩ := own_form h5
      clear h1 h2 h3 h5 HL
      obtain ⟨n, rfl⟩ : ∃ j, n = j + 1 := ⟨n - 1, by omega⟩
      unfold blockL at HR2
      have his := Lib.hid (isL_calls C (With S (.slice A out.length cv)) (d + 1) s2 [[125]] _ rfl 1 rfl (by decide) wr P2.out _ rfl)
      cases hb : isP C.T [[125]] s2
      · rw [hb] at his
        have HR4 := Lib.hid ((ifF hb).symm.trans HR2.out)
        clear hb HR2
        go_wp2_with fail
        refine his.out.mono ?_
        rintro e w3 ⟨rfl, hB⟩
        have Q4 := Lib.hid (P2.out.below hB)
        have KB := Lib.hid (P2.out.belowK hB)
        have L4 := Lib.hid (K2.out.trans (KB.out.sub fun _ h => .inl h))
        have o4 := Lib.hid (own_kept hown.out KB.out)
        clear hB
        go_wp2_with fail
        refine (HO.out (With S (.slice A out.length cv)) (d + 1) s2 _ Q4.out).mono ?_
        intro e w5 h5'
        generalize hr : one s2 = r at h5'
        cases r with
        | no c i =>
          obtain rfl : R2 = .no c i := HR4.out.symm.trans (bd_no hr)
          obtain rfl : R = .no c i := HRR.out
          clear hr
          obtain rfl := h5'.1
          go_wp2
          exact ⟨rfl, h5'.toL L4.out fun _ h => .inl h⟩
        | ok x s5 =>
          have HR5 := Lib.hid ((bd_ok hr).symm.trans HR4.out)
          have hadv : s2.at_ + 1 ≤ s5.at_ := by have := HF.out s2 Q4.out.lt; rw [hr] at this; exact this.1
          clear hr HR4
          obtain ⟨rfl, hp, hk⟩ := h5'
          have P5 := Lib.hid hp
          have K5 := Lib.hid (L4.out.trans (hk.sub fun _ h => .inl h))
          have o5 := Lib.hid (own_kept o4.out hk)
          have hq5 := hp.qlt
          have hs5 := Lib.hid hp.sLt
          have hw5 := K5.out.below.size
          have hlt5 := hp.lt
          clear hp hk
          unfold natV
          go_wp2_with (at_builtin; go_loud (refine wpList_append_lies _ rfl _ _ 40 rfl w.heap.size 3 i0 (.int .i64 0) 1 8 Tryz.underlying40 hi0 hz0 hz1 hz2 rfl (by decide) (.slice A out.length cv) _ _ rfl (own_alloc o5.out _) ⟨w5.heap.size, 0, none⟩ 1 1 [Value.int .i64 (x : Int)] rfl rfl (newsOne _ _ _ _ rfl) (fun x hx => by simp at hx; subst hx; rfl) (by decide) (by unfold maxLen; omega) (by omega) (by simp <;> omega) (w5.heap.size + 1) (by simp) ?_; intro g cap w6 hown' hgrow hl1 hl2; have HG := Lib.hid hgrow; have HO6 := Lib.hid hown'; clear hgrow hown'))
          have P6 := Lib.hid ((P5.out.alloc (.cells #[Value.int .i64 (x : Int)] 3)).grown (v' := .slice (some ⟨g, 0, none⟩) (out.length + 1) cap) HG.out (fun b hb => by obtain rfl : g = b := (by simpa [Value.ownBlock] using hb); exact ⟨hl1.imp id (fun e => by simp [e]), hl2⟩))
          have K6 := Lib.hid ((K5.out.trans (Keep.alloc (P5.out.sub fun _ h => .inl h) (.cells #[Value.int .i64 (x : Int)] 3))).grown HG.out (by simp; omega) (fun b hb => by have := (hs5.out b (.inl hb)).2; simp; omega) (fun b hb => by have := fresh_own H.out o5.out b hb; exact ⟨Nat.le_of_lt this.1, this.2⟩))
          have hat6 := Lib.hid P6.out.atOf
          go_roundw
          case rel => exact ⟨n, out ++ [x], s5, P6.out, K6.out, HR5.out, by omega, (by rw [List.length_append, show intsV (out ++ [x]) = intsV out ++ [Value.int .i64 (x : Int)] from by simp [intsV]]; exact HO6.out), by simp; omega⟩
          case measure =>
            rw [hat6.out, hat.out]
            omega
      · rw [hb] at his
        have HR3 := Lib.hid ((ifT hb).symm.trans HR2.out)
        clear hb HR2
        go_wp2_with fail
        refine his.out.mono ?_
        rintro e w3 ⟨rfl, hB⟩
        have P3 := Lib.hid (P2.out.below hB)
        have KB := Lib.hid (P2.out.belowK hB)
        have K3 := Lib.hid (K2.out.trans (KB.out.sub fun _ h => .inl h))
        have hown3 := Lib.hid (own_kept hown.out KB.out)
        clear hB
        obtain rfl : R2 = .ok out s2 := HR3.out.symm
        have HR4 := Lib.hid HRR.out
        clear HR3 HRR
        go_wp2_with fail
        refine (takeL_calls C (With S (.slice A out.length cv)) (d + 1) s2 [[125]] _ rfl 1 rfl (by decide) (by decide) _ P3.out _ (by simp)).mono ?_
        intro e w4 h4'
        generalize hr : takeP C.T [[125]] s2 = r at h4'
        cases r with
        | no c i =>
          obtain rfl : R = .no c i := HR4.out.symm.trans (bd_no hr)
          clear hr
          obtain rfl := h4'.1
          go_wp2
          exact ⟨rfl, h4'.toL K3.out fun _ h => .inl h⟩
        | ok o2 s3 =>
          obtain rfl : R = .ok out s3 := HR4.out.symm.trans (bd_ok hr)
          clear hr HR4
          obtain ⟨rfl, hp, hk⟩ := h4'
          have HE := Lib.hid (show OutL C S (d + 2) intsV (.ok out s3) w (.returned (.slice A out.length cv)) w4 from ⟨_, rfl, rwAt_of_own (own_kept hown3.out hk) _ (fresh_own H.out hown3.out), hp, K3.out.trans (hk.sub fun _ h => .inl h)⟩)
          clear hp hk
          unfold strV
          go_wp2
          go_ret
          exact HE.out
set_option maxRecDepth 100000 in
set_option maxHeartbeats 1000000 in
theorem block_deep (C : Cx) (S : Nat → Prop) (d : Nat) (s : Sg) (dep : Int) (h1 : 64 < dep) (w : World) (h : PAt C S d s w) :
    Calls Tryz.prog 108 #[.pointer (some ⟨C.q, 0, none⟩), .int .i64 dep] w (OutL C S (d + 1) intsV (.no 4 s.at_) w) := by
  have hwi := Lib.hid (within_no C S d s dep h1 w h natV)
  clear h
  go_enter Tryz.func108, Tryz.ntmps108
  go_wp2_with fail
  refine hwi.out.mono ?_
  intro e w1 h1
  obtain rfl := h1.1
  go_wp2
  exact ⟨rfl, h1⟩
theorem OutL.less {α : Type} {C : Cx} {S : Nat → Prop} {d d' : Nat} {mk : List α → List Value} {r : Rs (List α)} {w w' : World} {e : Ending} (h : OutL C S d mk r w e w') (hd : d' ≤ d) : OutL C S d' mk r w e w' := by
  cases r with
  | no c i => exact h
  | ok l s => obtain ⟨v, h1, h2, h3, h4⟩ := h; exact ⟨v, h1, h2, h3.less hd, h4⟩
theorem blkOf_part (C : Cx) (_hT : TkOk C.T) (k : Nat) (hk : k ≤ 64) (stm : Ps Nat) (hs : k ≠ 0 → StmtC C (65 - (k : Int)) stm) (hf : Fine C.T 1 stm) : BlockC C (65 - (k : Int)) (blkOf C.T k stm) := by
  intro S d s w h
  unfold blkOf
  by_cases h0 : k = 0
  · subst h0
    simp only [if_true]
    exact block_deep C S d s _ (by omega) w h
  · simp only [if_neg h0]
    exact (block_calls C S d s _ (by omega) stm (hs h0) hf w h).mono fun _ _ hh => hh.less (Nat.le_succ _)
theorem stmt_part (C : Cx) (hT : TkOk C.T) (k : Nat) (hk : k ≤ 64) : k ≠ 0 → StmtC C (65 - (k : Int)) (stmtM C.T k) := by
  induction k with
  | zero => intro h; exact absurd rfl h
  | succ k ih =>
    intro _ S d s w h
    have hi := ih (by omega)
    have e : (65 - ((k + 1 : Nat) : Int)) + 1 = 65 - (k : Int) := by omega
    have hb := blkOf_part C hT k (by omega) (stmtM C.T k) hi (fine_stmt hT k)
    refine statement_calls C S d s _ (by omega) (by omega) _ (operandM C.T k) (expr_part C hT (k + 1) (by omega)) (by rw [e]; exact expr_part C hT k (by omega)) (fine_operand hT k) _ (stmtM C.T k) (by rw [e]; exact hb) ?_ w h
    by_cases h0 : k = 0
    · subst h0
      exact .inl fun s a s' hh => by simp [blkOf] at hh
    · rw [e]; exact .inr (hi h0)
theorem block_part (C : Cx) (hT : TkOk C.T) (k : Nat) (hk : k ≤ 64) : BlockC C (65 - (k : Int)) (blockM C.T k) := blkOf_part C hT k hk _ (stmt_part C hT k hk) (fine_stmt hT k)

end Go.Proofs.YtdeflloidhbpmaaGreatDoor
