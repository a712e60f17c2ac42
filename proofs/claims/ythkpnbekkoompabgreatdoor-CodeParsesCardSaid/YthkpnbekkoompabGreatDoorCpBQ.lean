/-
  code.numbers: the ints that a line's parts tell.
-/
import Derived.Test.YthkpnbekkoompabGreatDoorCpAQ
import Derived.Laws.AppendOwn
import Derived.OwnWalk
namespace Go.Proofs.YthkpnbekkoompabGreatDoor
open Go.RowKit

theorem atoi_i64 {t : List UInt8} {v : Int} (h : Lib.atoiAll t = .ok v) : i64 v := by
  cases t with
  | nil => cases h
  | cons c r =>
    simp only [Lib.atoiAll] at h
    split at h
    · cases h
    · cases h
    · rename_i u hu
      split at h
      · cases h
      · split at h
        · cases h
        · injection h with h
          subst h
          unfold i64
          split <;> omega
theorem numsM_snoc (a : List (List UInt8)) (t : List UInt8) : numsM (a ++ [t]) = match numsM a, numM t with | some l, some n => some (l ++ [n]) | _, _ => none := by
  induction a with
  | nil => simp [numsM]; cases numM t <;> rfl
  | cons x r ih =>
    simp only [List.cons_append, numsM, ih]
    cases numM x with
    | none => rfl
    | some y =>
      cases numsM r with
      | none => rfl
      | some l => cases numM t <;> rfl
theorem numsM_some (a : List (List UInt8)) (t : List UInt8) (l : List Int) (n : Int) (h1 : numsM a = some l) (h2 : numM t = some n) : numsM (a ++ [t]) = some (l ++ [n]) := by rw [numsM_snoc, h1, h2]
theorem numsM_none : ∀ (l : List (List UInt8)) (k : Nat) (h : k < l.length), numM l[k] = none → numsM l = none
  | [], k, h, _ => by simp at h
  | t :: r, 0, _, h0 => by
    simp only [numsM]
    rw [show numM t = none from h0]
  | t :: r, k + 1, h, h0 => by
    have := numsM_none r k (by simpa using h) (by simpa using h0)
    simp only [numsM, this]
    cases numM t <;> rfl
theorem numsM_len : ∀ (l : List (List UInt8)) (o : List Int), numsM l = some o → o.length = l.length
  | [], o, h => by simp [numsM] at h; subst h; rfl
  | t :: r, o, h => by
    simp only [numsM] at h
    cases ht : numM t with
    | none => rw [ht] at h; cases h
    | some n =>
      cases hr : numsM r with
      | none => rw [ht, hr] at h; cases h
      | some l =>
        rw [ht, hr] at h
        obtain rfl := Option.some.inj h
        have := numsM_len r l hr
        simp [this]
theorem below_appC {B : Nat} {w W w1 : World} {v : Value} {e : TypeId} {sz n : Nat} {xs : List Value} (hB : Below B w W) (hs : B ≤ w.heap.size) (hown : W.ownsRow B e sz v n xs) (hg : W.grownBy w1 v.ownBlock) : Below B w w1 :=
  ⟨hg.os.trans hB.os, hg.tape.trans hB.tape, hg.output.trans hB.output, Nat.le_trans hB.size hg.size, fun k hk => (hg.block k (Nat.lt_of_lt_of_le hk (Nat.le_trans hs hB.size)) (fun e => by have := (own_ltC hown k e.symm).1; omega)).trans (hB.block k hk)⟩
theorem intsL_snoc (l : List Int) (x : Int) : intsL (l ++ [x]) = intsL l ++ [.int .i64 x] := by simp [intsL]
/-- A slice value reads as texts. -/
def SxAt (w : World) (A : Option Addr) (ps : List (List UInt8)) : Prop :=
  0 < ps.length → ∃ b off, A = some ⟨b, off, none⟩ ∧ b < w.heap.size ∧ ∀ j (h : j < ps.length), w.cell? ⟨b, off + j, none⟩ = some (.string (bs ps[j]))
theorem SxAt.below {w w' : World} {A : Option Addr} {ps : List (List UInt8)} (h : SxAt w A ps) (hb : Below w.heap.size w w') : SxAt w' A ps := fun hn => by
  obtain ⟨b, off, rfl, hlt, hc⟩ := h hn
  exact ⟨b, off, rfl, Nat.lt_of_lt_of_le hlt hb.size, fun j hj => keepC hb (hc j hj) hlt⟩
/-- What numbers answers. -/
def NumP (ps : List (List UInt8)) (w : World) (e : Ending) (w' : World) : Prop :=
  Below w.heap.size w w' ∧ ((numsM ps = none ∧ e = .returned (.tuple #[.slice none 0 0, .bool false])) ∨ ∃ l v, numsM ps = some l ∧ e = .returned (.tuple #[v, .bool true]) ∧ w'.ownsRow w.heap.size 3 1 v l.length (intsL l))

set_option maxRecDepth 100000 in
set_option maxHeartbeats 4000000 in
theorem numbers_calls (ps : List (List UInt8)) (A : Option Addr) (cap : Nat) (w : World) (hT : TX w) (hA : SxAt w A ps) (hl : ∀ t ∈ ps, t.length ≤ 1000000) (hn : ps.length ≤ 1000000) :
    Calls Tryz.prog 42 #[.slice A ps.length cap] w (NumP ps w) := by
  obtain ⟨i0, hi0, hz0, hz1, hz2⟩ := info_parts Tryz.infoInt
  have HT := Lib.hid hT
  have HA := Lib.hid hA
  have HL := Lib.hid hl
  clear hT hA hl
  go_enter Tryz.func42, Tryz.ntmps42
  go_wp2
  go_loopw [4, 11] (fun v i wr => ∃ (k : Nat) (l : List Int), k ≤ ps.length ∧ i = .int .i64 k ∧ Hid (numsM (ps.take k) = some l) ∧ Hid (wr.ownsRow w.heap.size 3 1 v l.length (intsL l)) ∧ Hid (Below w.heap.size w wr)) (fun _ i _ => ps.length - (intOf i).toNat)
  case atStart => exact ⟨0, [], by omega, rfl, Lib.hid rfl, Lib.hid (World.ownsRow_nil _ _ _ _), Lib.hid (Below.refl _ _)⟩
  case round =>
    obtain ⟨k, l, hk, rfl, HN, HO, HB⟩ := hrel
    obtain ⟨wo, rfl⟩ : ∃ x, x = wr := ⟨_, rfl⟩
    have hho := HO.out
    obtain ⟨A4, c4, rfl⟩ := own_sliceC hho
    clear hho
    have HLK : Hid (l.length = k) := Lib.hid (by rw [numsM_len _ _ HN.out, List.length_take]; omega)
    by_cases hlt : k < ps.length
    · obtain ⟨b, off, rfl, hb, hcl⟩ := HA.out (by omega)
      have hx := keepC HB.out (hcl k hlt) hb
      have hsz := HB.out.size
      have HTX := Lib.hid (HT.out.below HB.out (Nat.le_refl _))
      have htl := HL.out _ (List.getElem_mem hlt)
      have HNO := Lib.hid (fun (h : numM ps[k] = none) => numsM_none ps k hlt h)
      have HYES := Lib.hid (fun (n : Int) (h : numM ps[k] = some n) => numsM_some (ps.take k) ps[k] l n HN.out h)
      rw [← List.take_succ_eq_append_getElem hlt] at HYES
      generalize ps[k] = t at *
      have HAT := Lib.hid (atoi_calls t htl wo HTX.out)
      have hk0 : (0 : Int) ≤ (k : Int) := by omega
      have hk1 : (k : Int) < (ps.length : Int) := by omega
      clear hcl htl
      go_wp2_with fail
      refine HAT.out.mono ?_
      rintro e w1 ⟨hB1, hat⟩
      have HB1 := Lib.hid (HB.out.trans (hB1.mono hsz))
      have HTX1 := Lib.hid (HTX.out.below hB1 (Nat.le_refl _))
      have HO1 := Lib.hid (own_keepC HO.out fun g hg => hB1.block g (own_ltC HO.out g hg).2)
      clear hB1 HAT hx
      rcases hat with ⟨v, hv, rfl⟩ | ⟨hno, v, N, rfl⟩
      · have HIT := Lib.hid (itoa_calls v (atoi_i64 hv) w1 HTX1.out)
        have hcmp := str_eqC (a := Lib.itoa v) (b := t)
        have HNM : Hid (numM t = if Lib.itoa v = t then some v else none) := Lib.hid (by unfold numM; rw [hv])
        generalize Lib.itoa v = u at *
        clear hv
        by_cases hu : u = t
        · have HV := Lib.hid (HYES.out v (HNM.out.trans (if_pos hu)))
          have b1 : ((bs u).toList == (bs t).toList) = true := by rw [hcmp]; exact decide_eq_true hu
          have b2 : ((bs u).toList != (bs t).toList) = false := by simp [bne, b1]
          clear hcmp hu HNM
          go_wp2_with fail
          refine HIT.out.mono ?_
          rintro e w2 ⟨rfl, hB2⟩
          have HB2 := Lib.hid (HB1.out.trans (hB2.mono HB1.out.size))
          have HO2 := Lib.hid (own_keepC HO1.out fun g hg => hB2.block g (own_ltC HO1.out g hg).2)
          have hz2' : w.heap.size ≤ w2.heap.size := HB2.out.size
          have hlk : l.length ≤ 1000000 := by have := HLK.out; omega
          clear hB2 HIT
          go_wp2_with (at_builtin; refine wpList_append_own _ rfl _ _ 52 rfl w.heap.size 3 i0 (.int .i64 0) 1 8 Tryz.underlying52 hi0 hz0 hz1 hz2 rfl (by decide) (.slice A4 l.length c4) l.length (intsL l) rfl (HO2.out.alloc _) ⟨w2.heap.size, 0, none⟩ 1 1 [.int .i64 v] (by rfl) rfl (newsI w2 (.int .i64 v) 3 w2.heap.size rfl) (oneI _) (by unfold maxLen; omega) (by omega) (by simp; omega) ?_; intro v' w3 hown3 hgrow hnil; clear hnil; have HG := Lib.hid hgrow; have H3 := Lib.hid hown3; clear hgrow hown3)
          go_roundw
          case rel => exact ⟨k + 1, l ++ [v], by omega, by go_num, HV, Lib.hid (by rw [List.length_append, List.length_singleton, intsL_snoc]; exact H3.out), Lib.hid (below_appC (HB2.out.alloc hz2' _) (Nat.le_refl _) (HO2.out.alloc _) HG.out)⟩
          case measure => simp [intOf]; omega
        · have HV := Lib.hid (HNO.out (HNM.out.trans (if_neg hu)))
          have b1 : ((bs u).toList == (bs t).toList) = false := by rw [hcmp]; exact decide_eq_false hu
          have b2 : ((bs u).toList != (bs t).toList) = true := by simp [bne, b1]
          clear hcmp hu HNM
          go_wp2_with fail
          refine HIT.out.mono ?_
          rintro e w2 ⟨rfl, hB2⟩
          have HB2 := Lib.hid (HB1.out.trans (hB2.mono HB1.out.size))
          clear hB2 HIT
          go_wp2
          go_ret2
          exact ⟨HB2.out, .inl ⟨HV.out, rfl⟩⟩
      · have HV := Lib.hid (HNO.out (by
          unfold numM
          split
          · rename_i v' hv'; exact absurd hv' (hno v')
          · rfl))
        clear hno
        go_wp2
        go_ret2
        exact ⟨HB1.out, .inl ⟨HV.out, rfl⟩⟩
    · obtain rfl : k = ps.length := by omega
      clear hlt hk
      rw [List.take_length] at HN
      go_wp2
      go_ret2
      exact ⟨HB.out, .inr ⟨l, _, HN.out, rfl, HO.out⟩⟩

end Go.Proofs.YthkpnbekkoompabGreatDoor
