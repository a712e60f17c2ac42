/-
  code.take: a line's parts.
  Lines and their parts: the library's Cut and Split at one byte.
  code: a line is cut off, and parted; code that is built can be read.
  code.Parse.
  The statements' own small fact: the document's example is parsed, and is good.
  The statements' own small fact, walked.
-/
import Derived.Test.YthkpnbekkoompabGreatDoorCpEQ
import Derived.Test.YthkpnbekkoompabGreatDoorCpM
import Derived.Lib.Split
import Derived.Lib.IndexBytes
import Derived.Lib.IndexLaws
import Derived.Lib.CountLaws
import Derived.Shelf.Strings.Split
import Derived.Test.YthkpnbekkoompabGreatDoorQ05
namespace Go.Proofs.YthkpnbekkoompabGreatDoor
open Go.RowKit

theorem TkP.cases {bc : Nat} {r : Option CoM} {w w' : World} {e : Ending} (h : TkP bc r w e w') : (r = none ∧ e = .returned (.bool false) ∧ Below bc w w') ∨ ∃ c' vP vI, r = some c' ∧ e = .returned (.bool true) ∧ Cc bc vP vI c' w' ∧ Below bc w w' := by
  obtain ⟨hb, h⟩ := h
  cases r with
  | none => exact .inl ⟨rfl, h, hb⟩
  | some c' =>
    obtain ⟨he, vP, vI, hc⟩ := h
    exact .inr ⟨c', vP, vI, rfl, he, hc, hb⟩
section
variable {bc : Nat} {vP vI : Value} {c : CoM} {w : World} {ps : List (List UInt8)}
set_option maxRecDepth 100000 in
set_option maxHeartbeats 2000000 in
theorem take_calls (hbc : bc ≤ w.heap.size) (hc : Cc bc vP vI c w) (b off n : Nat) (hn : ps.length = n) (hn1 : 1 ≤ n) (hn2 : n ≤ 1000000) (hA : SxAt w (some ⟨b, off, none⟩) ps) (hT : TX w) (hl : ∀ t ∈ ps, t.length ≤ 100000) (hfp : c.ps.length ≤ 1000000) (hfi : c.is.length ≤ 1000000) :
    Calls Tryz.prog 12 #[.pointer (some ⟨bc, 0, none⟩), .slice (some ⟨b, off, none⟩) n n] w (TkP bc (takeM c ps) w) := by
  obtain ⟨b', off', hbb, hb, hcl⟩ := hA (by omega)
  injection hbb with hbb
  injection hbb with e1 e2
  subst e1 e2
  have h0 : 0 < ps.length := by omega
  have q0 := hcl 0 h0
  rw [Nat.add_zero] at q0
  have g0 : ps.getD 0 [] = ps[0] := by rw [List.getD_eq_getElem?_getD, List.getElem?_eq_getElem h0]; rfl
  have hcmp : ((bs ps[0]).toList == [112, 114, 111, 99]) = decide (ps[0] = procB) := by
    rw [ByteArray.toList_eq, bs_toList]
    by_cases h : ps[0] = procB
    · rw [h, decide_eq_true rfl]; rfl
    · rw [decide_eq_false h]; exact beq_eq_false_iff_ne.2 h
  have hk0 : (1 : Int) ≤ (n : Int) := by omega
  have hk1 : (0 : Int) < (n : Int) := by omega
  by_cases hp : ps[0] = procB
  · have HM : Hid (takeM c ps = takePM c ps) := Lib.hid (by unfold takeM; rw [g0, if_pos hp])
    have b1 : ((bs ps[0]).toList == [112, 114, 111, 99]) = true := by rw [hcmp]; exact decide_eq_true hp
    have HTK : Hid (Calls Tryz.prog 22 #[.pointer (some ⟨bc, 0, none⟩), .slice (some ⟨b, off, none⟩) n n] w (TkP bc (takePM c ps) w)) := Lib.hid (by
      by_cases h5 : ps.length = 5
      · obtain rfl : n = 5 := by omega
        exact takeP_five hbc hc b off 5 h5 (by omega) hA hT hl hfp hfi
      · rw [← hn]
        exact takeP_len _ _ h5)
    generalize ps[0] = t0 at *
    clear hcl hA hT hl hc hn g0 hp hcmp
    go_enter Tryz.func12, Tryz.ntmps12
    go_wp2_with fail
    refine HTK.out.mono ?_
    intro e w1 h1
    rcases h1.cases with ⟨hr, rfl, hB⟩ | ⟨c', vP', vI', hr, rfl, hc', hB⟩
    · have HR := Lib.hid (HM.out.trans hr)
      have HB := Lib.hid hB
      clear hr hB h1
      go_wp2
      go_ret
      exact tk_none HR.out HB.out
    · have HR := Lib.hid (HM.out.trans hr)
      have HB := Lib.hid hB
      have HC := Lib.hid hc'
      clear hr hB h1 hc'
      go_wp2
      go_ret
      exact tk_some HR.out HB.out HC.out
  · have b1 : ((bs ps[0]).toList == [112, 114, 111, 99]) = false := by rw [hcmp]; exact decide_eq_false hp
    obtain ⟨AP, cP, rfl⟩ := own_sliceC hc.rowP
    have x0 := cellC hc.box 0
    by_cases hps : c.ps = []
    · have HR : Hid (takeM c ps = none) := Lib.hid (by unfold takeM; rw [g0, if_neg hp, if_pos hps])
      have hpl : c.ps.length = 0 := by rw [hps]; rfl
      rw [hpl] at x0
      generalize ps[0] = t0 at *
      clear hcl hA hT hl hc hn g0 hp hcmp hpl hps
      go_enter Tryz.func12, Tryz.ntmps12
      go_wp2
      go_ret
      exact tk_none HR.out (Below.refl _ _)
    · have HM : Hid (takeM c ps = takeIM c ps) := Lib.hid (by unfold takeM; rw [g0, if_neg hp, if_neg hps])
      have hpl : 0 < c.ps.length := List.length_pos_iff.2 hps
      have l1 : decide ((0 : Int) < (c.ps.length : Int)) = true := decide_eq_true (by omega)
      have l2 : decide (0 < c.ps.length) = true := decide_eq_true hpl
      have HTK := Lib.hid (takeI_calls hbc hc b off n hn hn1 hn2 hA hT hl hps hfp hfi)
      generalize ps[0] = t0 at *
      clear hcl hA hT hl hc hn g0 hp hcmp hps
      go_enter Tryz.func12, Tryz.ntmps12
      go_wp2_with fail
      refine HTK.out.mono ?_
      intro e w1 h1
      rcases h1.cases with ⟨hr, rfl, hB⟩ | ⟨c', vP', vI', hr, rfl, hc', hB⟩
      · have HR := Lib.hid (HM.out.trans hr)
        have HB := Lib.hid hB
        clear hr hB h1
        go_wp2
        go_ret
        exact tk_none HR.out HB.out
      · have HR := Lib.hid (HM.out.trans hr)
        have HB := Lib.hid hB
        have HC := Lib.hid hc'
        clear hr hB h1 hc'
        go_wp2
        go_ret
        exact tk_some HR.out HB.out HC.out
end
end Go.Proofs.YthkpnbekkoompabGreatDoor

namespace Go.Proofs.YthkpnbekkoompabGreatDoor
open Go.Lib

theorem cutL_eq (t : List UInt8) : Lib.cut t [10] = cutL t := by
  have key : ∀ t : List UInt8, (indexByte t 10 = -1 → cutL t = (t, [], false)) ∧ (∀ i : Nat, indexByte t 10 = (i : Int) → cutL t = (t.take i, t.drop (i + 1), true)) := by
    intro t
    induction t with
    | nil => exact ⟨fun _ => rfl, fun i h => by simp [indexByte] at h⟩
    | cons b r ih =>
      have hg := indexByte_ge r 10
      by_cases hb : b = 10
      · refine ⟨fun h => ?_, fun i h => ?_⟩
        · simp [indexByte, hb] at h
        · simp [indexByte, hb] at h
          obtain rfl : i = 0 := by omega
          simp [cutL, hb]
      · refine ⟨fun h => ?_, fun i h => ?_⟩
        · simp only [indexByte, beq_iff_eq, if_neg hb] at h
          split at h
          · rename_i h1
            simp [cutL, hb, ih.1 h1]
          · rename_i h1; omega
        · simp only [indexByte, beq_iff_eq, if_neg hb] at h
          split at h
          · omega
          · rename_i h1
            obtain ⟨j, rfl⟩ : ∃ j, i = j + 1 := ⟨i - 1, by omega⟩
            have := ih.2 j (by omega)
            simp [cutL, hb, this]
  unfold Lib.cut
  rw [index_one]
  by_cases h : 0 ≤ indexByte t 10
  · rw [if_pos h]
    have := (key t).2 (indexByte t 10).toNat (by omega)
    rw [this]; rfl
  · rw [if_neg h]
    have := (key t).1 (by have := indexByte_ge t 10; omega)
    rw [this]
theorem splitL_ne (t : List UInt8) : splitL t ≠ [] := by
  cases t with
  | nil => simp [splitL]
  | cons c r => unfold splitL; split <;> (try split) <;> simp
theorem splitL_at (t : List UInt8) : (indexByte t 32 = -1 → splitL t = [t]) ∧ (∀ i : Nat, indexByte t 32 = (i : Int) → splitL t = t.take i :: splitL (t.drop (i + 1))) := by
  induction t with
  | nil => exact ⟨fun _ => rfl, fun i h => by simp [indexByte] at h⟩
  | cons b r ih =>
    have hg := indexByte_ge r 32
    by_cases hb : b = 32
    · refine ⟨fun h => ?_, fun i h => ?_⟩
      · simp [indexByte, hb] at h
      · simp [indexByte, hb] at h
        obtain rfl : i = 0 := by omega
        simp [splitL, hb]
    · refine ⟨fun h => ?_, fun i h => ?_⟩
      · simp only [indexByte, beq_iff_eq, if_neg hb] at h
        split at h
        · rename_i h1
          simp [splitL, hb, ih.1 h1]
        · rename_i h1; omega
      · simp only [indexByte, beq_iff_eq, if_neg hb] at h
        split at h
        · omega
        · rename_i h1
          obtain ⟨j, rfl⟩ : ∃ j, i = j + 1 := ⟨i - 1, by omega⟩
          have := ih.2 j (by omega)
          simp [splitL, hb, this]
theorem splitK_eq : ∀ (n : Nat) (t : List UInt8), t.length = n → splitK [32] 0 (Lib.count t [32]) t = splitL t := by
  intro n
  induction n using Nat.strongRecOn with
  | _ n ih =>
    intro t ht
    have hc : Lib.count t [32] = if index t [32] == -1 then 0 else 1 + Lib.countFrom [32] t.length (t.drop ((index t [32]).toNat + 1)) := rfl
    rw [index_one] at hc
    by_cases h : indexByte t 32 = -1
    · rw [hc, h, (splitL_at t).1 h]
      rfl
    · have hg := indexByte_ge t 32
      obtain ⟨i, hi⟩ : ∃ i : Nat, indexByte t 32 = (i : Int) := ⟨(indexByte t 32).toNat, by omega⟩
      have hlt : i < t.length := by
        have := (indexByte_some hi).1
        exact (List.getElem?_eq_some_iff.1 this).1
      have e1 : Lib.count t [32] = Lib.count (t.drop (i + 1)) [32] + 1 := by
        rw [hc, hi]
        rw [if_neg (by simp)]
        have : Lib.countFrom [32] t.length (t.drop (i + 1)) = Lib.count (t.drop (i + 1)) [32] := by
          unfold Lib.count
          exact countFrom_fuel (by simp) _ _ (by rw [List.length_drop]; omega) _ (by omega)
        rw [Int.toNat_natCast, this]; omega
      rw [e1, (splitL_at t).2 i hi]
      simp only [splitK]
      rw [index_one, hi, if_neg (by simp), Int.toNat_natCast]
      rw [Nat.add_zero]
      have := ih (t.drop (i + 1)).length (by rw [List.length_drop]; omega) (t.drop (i + 1)) rfl
      show _ :: splitK [32] 0 _ (List.drop (i + 1) t) = _
      rw [this]
theorem splitL_len (t : List UInt8) : (splitL t).length = Lib.count t [32] + 1 := by
  have key : ∀ n (t : List UInt8), t.length = n → (splitL t).length = Lib.count t [32] + 1 := by
    intro n
    induction n using Nat.strongRecOn with
    | _ n ih =>
      intro t ht
      have hc : Lib.count t [32] = if index t [32] == -1 then 0 else 1 + Lib.countFrom [32] t.length (t.drop ((index t [32]).toNat + 1)) := rfl
      rw [index_one] at hc
      by_cases h : indexByte t 32 = -1
      · rw [hc, h, (splitL_at t).1 h]
        rfl
      · have hg := indexByte_ge t 32
        obtain ⟨i, hi⟩ : ∃ i : Nat, indexByte t 32 = (i : Int) := ⟨(indexByte t 32).toNat, by omega⟩
        have hlt : i < t.length := by
          have := (indexByte_some hi).1
          exact (List.getElem?_eq_some_iff.1 this).1
        have e1 : Lib.count t [32] = Lib.count (t.drop (i + 1)) [32] + 1 := by
          rw [hc, hi]
          rw [if_neg (by simp)]
          have : Lib.countFrom [32] t.length (t.drop (i + 1)) = Lib.count (t.drop (i + 1)) [32] := by
            unfold Lib.count
            exact countFrom_fuel (by simp) _ _ (by rw [List.length_drop]; omega) _ (by omega)
          rw [Int.toNat_natCast, this]; omega
        rw [e1, (splitL_at t).2 i hi, List.length_cons, ih (t.drop (i + 1)).length (by rw [List.length_drop]; omega) (t.drop (i + 1)) rfl]
  exact key _ t rfl
theorem splitL_part (t : List UInt8) : ∀ x ∈ splitL t, x.length ≤ t.length := by
  induction t with
  | nil => simp [splitL]
  | cons c r ih =>
    intro x hx
    unfold splitL at hx
    split at hx
    · rcases List.mem_cons.1 hx with rfl | hx
      · simp
      · have := ih x hx; simp; omega
    · split at hx
      · simp at hx; subst hx; simp
      · rename_i h tl he
        rw [he] at ih
        rcases List.mem_cons.1 hx with rfl | hx
        · have := ih h (by simp); simp; omega
        · have := ih x (by simp [hx]); simp; omega
theorem cutL_le (t : List UInt8) : (cutL t).1.length ≤ t.length ∧ (cutL t).2.1.length ≤ t.length := by
  induction t with
  | nil => simp [cutL]
  | cons c r ih =>
    unfold cutL
    split
    · simp
    · simp; omega

end Go.Proofs.YthkpnbekkoompabGreatDoor

namespace Go.Proofs.YthkpnbekkoompabGreatDoor
open Go.RowKit

theorem bs_mk (l : List UInt8) : (⟨l.toArray⟩ : ByteArray) = bs l := rfl
theorem cut_calls (t : List UInt8) (ht : t.length ≤ 1000000) (w : World) (hT : TX w) : Calls Tryz.prog 11 #[.string (bs t), .string ⟨#[10]⟩] w fun e w' => e = .returned (.tuple #[.string (bs (cutL t).1), .string (bs (cutL t).2.1), .bool (cutL t).2.2]) ∧ Below w.heap.size w w' := by
  obtain ⟨m, hm⟩ := hT.mx
  refine (Tryz.cutW (bs t) ⟨#[10]⟩ m w (by rw [bs_size]; omega) hm).mono ?_
  rintro e w' ⟨rfl, n, rfl⟩
  rw [bs_toList, show (⟨#[10]⟩ : ByteArray).data.toList = [10] from rfl, cutL_eq, bs_mk, bs_mk]
  exact ⟨rfl, below_drewC (Below.refl _ _) n⟩
def SpP (t : List UInt8) (w : World) (e : Ending) (w' : World) : Prop :=
  e = .returned (.slice (some ⟨w.heap.size, 0, none⟩) (splitL t).length (splitL t).length) ∧ Below w.heap.size w w' ∧ SxAt w' (some ⟨w.heap.size, 0, none⟩) (splitL t)
theorem split_calls (t : List UInt8) (ht : t.length ≤ 1000000) (w : World) (hT : TX w) : Calls Tryz.prog 13 #[.string (bs t), .string ⟨#[32]⟩] w (SpP t w) := by
  obtain ⟨m, hm⟩ := hT.mx
  refine (Tryz.splitW (bs t) ⟨#[32]⟩ m w (by rw [bs_size]; omega) hm (by decide)).mono ?_
  rintro e w' ⟨rfl, rfl⟩
  have hcnt : Lib.countB (bs t) ⟨#[32]⟩ + 1 = (splitL t).length := by rw [splitL_len]; unfold Lib.countB; rw [bs_toList]
  have hd := Lib.splitB_data ⟨#[32]⟩ 0 (Lib.countB (bs t) ⟨#[32]⟩) (bs t)
  rw [bs_toList, show (⟨#[32]⟩ : ByteArray).data.toList = [32] from rfl] at hd
  have hk : Lib.splitK [32] 0 (Lib.countB (bs t) ⟨#[32]⟩) t = splitL t := by
    unfold Lib.countB; rw [bs_toList]; exact splitK_eq _ t rfl
  rw [hk] at hd
  rw [hcnt]
  refine ⟨rfl, (Below.refl _ _).alloc (Nat.le_refl _) _, fun _ => ⟨w.heap.size, 0, rfl, by simp, fun j hj => ?_⟩⟩
  rw [cellC (heapOne w _ _) (0 + j), Nat.zero_add, List.getElem?_toArray, List.getElem?_map]
  have h1 := congrArg (·[j]?) hd
  rw [List.getElem?_map, List.getElem?_eq_getElem hj] at h1
  cases hx : (Lib.splitB ⟨#[32]⟩ 0 (Lib.countB (bs t) ⟨#[32]⟩) (bs t))[j]? with
  | none => rw [hx] at h1; cases h1
  | some b =>
    rw [hx] at h1
    have h2 := Option.some.inj h1
    simp only [Option.map_some]
    rw [← h2]
    rfl

/-! What is built fits. -/
structure CFit (c : CoM) : Prop where
  prs : ∀ p ∈ c.ps, p.fit ∧ p.name.length ≤ 100000
  ins : ∀ x ∈ c.is, x.fit
theorem numM_i64 {t : List UInt8} {v : Int} (h : numM t = some v) : i64 v := by
  unfold numM at h
  split at h
  · rename_i u hu
    split at h
    · obtain rfl := Option.some.inj h
      exact atoi_i64 hu
    · cases h
  · cases h
theorem numsM_i64 : ∀ (ps : List (List UInt8)) (l : List Int), numsM ps = some l → ∀ v ∈ l, i64 v
  | [], l, h => by simp [numsM] at h; subst h; simp
  | t :: r, l, h => by
    simp only [numsM] at h
    cases ht : numM t with
    | none => rw [ht] at h; cases h
    | some n =>
      cases hr : numsM r with
      | none => rw [ht, hr] at h; cases h
      | some o =>
        rw [ht, hr] at h
        obtain rfl := Option.some.inj h
        intro v hv
        rcases List.mem_cons.1 hv with rfl | hv
        · exact numM_i64 ht
        · exact numsM_i64 r o hr v hv
theorem getD_i64 {l : List Int} (h : ∀ v ∈ l, i64 v) (k : Nat) : i64 (l.getD k 0) := by
  rw [List.getD_eq_getElem?_getD]
  cases hx : l[k]? with
  | none => exact ⟨by decide, by decide⟩
  | some v => exact h v (List.mem_of_getElem? hx)
theorem endAt_mem (n : Int) : ∀ (ps : List PrM) (p : PrM), p ∈ endAt n ps → ∃ q ∈ ps, p = q ∨ p = { q with to := n }
  | [], p, h => by cases h
  | [q], p, h => by
    simp [endAt] at h
    exact ⟨q, by simp, .inr h⟩
  | q :: r :: s, p, h => by
    simp only [endAt] at h
    rcases List.mem_cons.1 h with rfl | h
    · exact ⟨p, by simp, .inl rfl⟩
    · obtain ⟨y, hy, hx⟩ := endAt_mem n (r :: s) p h
      exact ⟨y, List.mem_cons_of_mem _ hy, hx⟩
theorem takeM_fit {c c' : CoM} {ps : List (List UInt8)} (h : takeM c ps = some c') (hf : CFit c) (hl : ∀ t ∈ ps, t.length ≤ 100000) (hn : c.is.length ≤ 1000000) : CFit c' ∧ c'.ps.length + c'.is.length = c.ps.length + c.is.length + 1 := by
  unfold takeM at h
  split at h
  · unfold takePM at h
    split at h
    · rename_i h5
      cases hx : numsM (ps.drop 2) with
      | none => rw [hx] at h; cases h
      | some l =>
        rw [hx] at h
        obtain rfl := Option.some.inj h
        have hv := numsM_i64 _ _ hx
        have h1 : ps.getD 1 [] ∈ ps := by
          rw [List.getD_eq_getElem?_getD, List.getElem?_eq_getElem (by omega : 1 < ps.length)]
          exact List.getElem_mem _
        have hi : i64 (c.is.length : Int) := ⟨by omega, by omega⟩
        refine ⟨⟨fun p hp => ?_, hf.ins⟩, by simp; omega⟩
        rcases List.mem_append.1 hp with hp | hp
        · exact hf.prs p hp
        · simp at hp; subst hp
          exact ⟨⟨hi, hi, getD_i64 hv 0, getD_i64 hv 1, getD_i64 hv 2⟩, hl _ h1⟩
    · cases h
  · split at h
    · cases h
    · unfold takeIM at h
      cases hx : numsM (ps.drop 1) with
      | none => rw [hx] at h; cases h
      | some l =>
        rw [hx] at h
        dsimp only at h
        split at h
        · cases h
        · obtain rfl := Option.some.inj h
          have hv := numsM_i64 _ _ hx
          have ho := opM_le (ps.getD 0 [])
          refine ⟨⟨fun p hp => ?_, fun x hx => ?_⟩, by simp [endAt_len]; omega⟩
          · obtain ⟨q, hq, hpq⟩ := endAt_mem _ _ _ hp
            have := hf.prs q hq
            rcases hpq with rfl | rfl
            · exact this
            · have hi2 : i64 ((c.is.length : Int) + 1) := ⟨by omega, by omega⟩
              exact ⟨⟨this.1.1, hi2, this.1.2.2.1, this.1.2.2.2.1, this.1.2.2.2.2⟩, this.2⟩
          · rcases List.mem_append.1 hx with hx | hx
            · exact hf.ins x hx
            · obtain rfl := List.mem_singleton.1 hx
              have hi2 : i64 ((opM (ps.getD 0 []) : Nat) : Int) := ⟨by omega, by omega⟩
              exact ⟨hi2, getD_i64 hv 0, getD_i64 hv 1⟩

/-! Code that is built, read. -/
theorem flatP_get : ∀ (ps : List PrM) (i : Nat) (h : i < ps.length), (flatP ps)[i * 6]? = some (.string (bs (ps[i]).name)) ∧ (flatP ps)[i * 6 + 1]? = some (.int .i64 (ps[i]).frm) ∧ (flatP ps)[i * 6 + 2]? = some (.int .i64 (ps[i]).to) ∧ (flatP ps)[i * 6 + 3]? = some (.int .i64 (ps[i]).par) ∧ (flatP ps)[i * 6 + 4]? = some (.int .i64 (ps[i]).slo) ∧ (flatP ps)[i * 6 + 5]? = some (.int .i64 (ps[i]).typ)
  | [], i, h => by simp at h
  | p :: r, 0, h => by simp [flatP, prC]
  | p :: r, i + 1, h => by
    have := flatP_get r i (by simpa using h)
    have e : flatP (p :: r) = prC p ++ flatP r := rfl
    have key : ∀ k, (flatP (p :: r))[6 + k]? = (flatP r)[k]? := fun k => by
      rw [e, List.getElem?_append_right (by simp [prC])]; simp [prC]
    rw [show (i + 1) * 6 = 6 + i * 6 by omega, Nat.add_assoc, Nat.add_assoc, Nat.add_assoc, Nat.add_assoc, Nat.add_assoc, key, key, key, key, key, key]
    simpa using this
theorem flatI_get : ∀ (xs : List InM) (i : Nat) (h : i < xs.length), (flatI xs)[i * 3]? = some (.int .i64 (xs[i]).op) ∧ (flatI xs)[i * 3 + 1]? = some (.int .i64 (xs[i]).arg) ∧ (flatI xs)[i * 3 + 2]? = some (.int .i64 (xs[i]).mor)
  | [], i, h => by simp at h
  | p :: r, 0, h => by simp [flatI, inC]
  | p :: r, i + 1, h => by
    have := flatI_get r i (by simpa using h)
    have e : flatI (p :: r) = inC p ++ flatI r := rfl
    have key : ∀ k, (flatI (p :: r))[3 + k]? = (flatI r)[k]? := fun k => by
      rw [e, List.getElem?_append_right (by simp [inC])]; simp [inC]
    rw [show (i + 1) * 3 = 3 + i * 3 by omega, Nat.add_assoc, Nat.add_assoc, key, key, key]
    simpa using this
theorem own_read {w : World} {base n sz : Nat} {e : TypeId} {v : Value} {xs : List Value} (h : w.ownsRow base e sz v n xs) (hn : 0 < n) : ∃ g cap, v = .slice (some ⟨g, 0, none⟩) n cap ∧ g < w.heap.size ∧ n ≤ cap ∧ cap ≤ maxLen ∧ ∀ j u, xs[j]? = some u → w.cell? ⟨g, j, none⟩ = some u := by
  have h' := h
  rcases h.2 with ⟨_, h0⟩ | ⟨g, cap, cur, rfl, hb, hg, h1, h2, h3, h4⟩
  · omega
  · refine ⟨g, cap, rfl, blkLt hg, h1, h2, fun j u hu => ?_⟩
    have := h'.cells (g := g) rfl j u hu
    rwa [Addr.add_lit, Nat.zero_add] at this
theorem own_cap {w : World} {base n sz c : Nat} {A : Option Addr} {e : TypeId} {xs : List Value} (h : w.ownsRow base e sz (.slice A n c) n xs) : n ≤ c ∧ c ≤ maxLen := by
  rcases h.2 with ⟨h0, h1⟩ | ⟨g, cap, cur, hv, hb, hg, h1, h2, h3, h4⟩
  · injection h0 with _ a b; subst b; exact ⟨by omega, by unfold maxLen; omega⟩
  · injection hv with _ _ b; subst b; exact ⟨h1, h2⟩
theorem Cc.co {bc : Nat} {A A2 : Option Addr} {c1 c2 : Nat} {c : CoM} {w : World} (h : Cc bc (.slice A c.ps.length c1) (.slice A2 c.is.length c2) c w) (hf : CFit c) : CoAt w w.heap.size A c1 A2 c2 c := by
  have k1 := own_cap h.rowP
  have k2 := own_cap h.rowI
  refine ⟨fun hn => ?_, fun hn => ?_, k1.1, k2.1, ⟨k1.2, k2.2⟩, fun p hp => (hf.prs p hp).1, hf.ins⟩
  · obtain ⟨g, cap, hv, hg, _, _, hc⟩ := own_read h.rowP hn
    injection hv with hv
    refine ⟨g, 0, hv, hg, fun i hi => ?_⟩
    obtain ⟨q0, q1, q2, q3, q4, q5⟩ := flatP_get c.ps i hi
    rw [Nat.zero_add]
    exact ⟨hc _ _ q0, hc _ _ q1, hc _ _ q2, hc _ _ q3, hc _ _ q4, hc _ _ q5⟩
  · obtain ⟨g, cap, hv, hg, _, _, hc⟩ := own_read h.rowI hn
    injection hv with hv
    refine ⟨g, 0, hv, hg, fun i hi => ?_⟩
    obtain ⟨q0, q1, q2⟩ := flatI_get c.is i hi
    rw [Nat.zero_add]
    exact ⟨hc _ _ q0, hc _ _ q1, hc _ _ q2⟩

end Go.Proofs.YthkpnbekkoompabGreatDoor

namespace Go.Proofs.YthkpnbekkoompabGreatDoor
open Go.RowKit

def zeroC : Value := .agg #[.slice none 0 0, .slice none 0 0]
/-- What Parse answers (of a text that isn't too long). -/
def PsP (t : List UInt8) (w : World) (e : Ending) (w' : World) : Prop :=
  Below w.heap.size w w' ∧ ((∃ k, parseM t = .inl k ∧ e = .returned (.tuple #[zeroC, .int .i64 (k : Int), .int .i64 3])) ∨
   (∃ c k, parseM t = .inr (c, k) ∧ ¬ GoodC c ∧ e = .returned (.tuple #[zeroC, .int .i64 (k : Int), .int .i64 3])) ∨
   (∃ c k A c1 A2 c2, parseM t = .inr (c, k) ∧ GoodC c ∧ CFit c ∧ e = .returned (.tuple #[coV A c1 A2 c2 c, .int .i64 0, .int .i64 0]) ∧ CoAt w' w'.heap.size A c1 A2 c2 c ∧ c.ps.length + c.is.length ≤ t.length + 1))
/-- What holds at the head of a round. -/
structure PI (T : List UInt8) (bc : Nat) (t : List UInt8) (k : Nat) (c : CoM) (vP vI : Value) (w0 w : World) : Prop where
  run : parseM T = linesM (t.length + 1) t k c
  cc : Cc bc vP vI c w
  low : Below bc w0 w
  fit : CFit c
  cnt : c.ps.length + c.is.length + 1 = k
  len : k + t.length ≤ T.length + 1
theorem linesM_next {t : List UInt8} {k : Nat} {c c' : CoM} (h0 : t ≠ []) (hc : (cutL t).2.2 = true) (ht : takeM c (splitL (cutL t).1) = some c') : linesM (t.length + 1) t k c = linesM ((cutL t).2.1.length + 1) (cutL t).2.1 (k + 1) c' := by
  conv => lhs; rw [linesM]
  rw [if_neg h0, if_pos hc, ht]
  exact linesM_step _ _ _ _ (cutL_lt t hc) _ (by omega)
theorem linesM_bad {t : List UInt8} {k : Nat} {c : CoM} (h0 : t ≠ []) (h : (cutL t).2.2 = false ∨ takeM c (splitL (cutL t).1) = none) : linesM (t.length + 1) t k c = .inl k := by
  rw [linesM, if_neg h0]
  by_cases hc : (cutL t).2.2 = true
  · rw [if_pos hc]
    rcases h with h | h
    · rw [hc] at h; cases h
    · rw [h]
  · rw [if_neg hc]

theorem Cc.setLow {bc g o : Nat} {vP vI v : Value} {c : CoM} {w : World} (h : Cc bc vP vI c w) (hg : g < bc) : Cc bc vP vI c (w.setCell ⟨g, o, none⟩ v) :=
  ⟨(setNe w g o v bc (by omega)).trans h.box, own_keepC h.rowP fun k hk => setNe w g o v k (by have := (own_ltC h.rowP k hk).1; omega), own_keepC h.rowI fun k hk => setNe w g o v k (by have := (own_ltC h.rowI k hk).1; omega)⟩
set_option maxRecDepth 100000 in
set_option maxHeartbeats 4000000 in
theorem parse_calls (T : List UInt8) (hT : T.length ≤ 90000) (w : World) (hX : TX w) : Calls Tryz.prog 5 #[.string (bs T)] w (PsP T w) := by
  have hsz : (bs T).size = T.length := bs_size T
  have hd : decide ((200000 : Int) < ((bs T).size : Int)) = false := decide_eq_false (by omega)
  have hd2 : decide (200000 < (bs T).size) = false := decide_eq_false (by omega)
  have HX := Lib.hid hX
  have HR0 := Lib.hid (heapOne w #[.slice none 0 0, .slice none 0 0] 26)
  have HB0 := Lib.hid ((Below.refl w.heap.size w).alloc (Nat.le_refl _) (.cells #[.slice none 0 0, .slice none 0 0] 26))
  have HSZ := Lib.hid hsz
  clear hsz hX
  go_enter Tryz.func5, Tryz.ntmps5
  go_wp2
  have HZ1 : Hid ((w.alloc (.cells #[.slice none 0 0, .slice none 0 0] 26)).heap.size = w.heap.size + 1) := Lib.hid (by simp)
  generalize w.alloc (.cells #[.slice none 0 0, .slice none 0 0] 26) = W1 at *
  have hc0 : Cc (w.heap.size + 1) (.slice none 0 0) (.slice none 0 0) ⟨[], []⟩ (W1.alloc (.cells #[.slice none 0 0, .slice none 0 0] 26)) :=
    ⟨by rw [← HZ1.out]; exact heapOne W1 _ _, World.ownsRow_nil _ _ _ _, World.ownsRow_nil _ _ _ _⟩
  have HP0 : Hid (PI T (w.heap.size + 1) T 1 ⟨[], []⟩ (.slice none 0 0) (.slice none 0 0) W1 (W1.alloc (.cells #[.slice none 0 0, .slice none 0 0] 26))) := Lib.hid
    ⟨rfl, hc0, by rw [← HZ1.out]; exact (Below.refl _ _).alloc (Nat.le_refl _) _, ⟨fun p hp => (by cases hp), fun x hx => (by cases hx)⟩, rfl, by omega⟩
  clear hc0
  go_loopw [0, 6] (fun s ln wr => ∃ (t : List UInt8) (k : Nat) (c : CoM) (vP vI : Value), s = .string (bs t) ∧ ln = .int .i64 k ∧ Hid (PI T (w.heap.size + 1) t k c vP vI W1 wr)) (fun s _ _ => match s with | .string b => b.size | _ => 0)
  case atStart => exact ⟨T, 1, _, _, _, rfl, rfl, HP0⟩
  case round =>
    obtain ⟨t, k, c, vP, vI, rfl, rfl, HI⟩ := hrel
    have hlen := HI.out.len
    have hcnt := HI.out.cnt
    have hk0 : (k : Int) ≤ 1000000 := by omega
    have hk1 : (0 : Int) ≤ (k : Int) := by omega
    have HRB : Hid (wr.heap[w.heap.size]? = some (.cells #[.slice none 0 0, .slice none 0 0] 26 (0, 0))) := Lib.hid ((HI.out.low.block _ (by omega)).trans HR0.out)
    have HBW : Hid (Below w.heap.size w wr) := Lib.hid (HB0.out.trans (HI.out.low.mono (by omega)))
    have HXR := Lib.hid (HX.out.below HBW.out (Nat.le_refl _))
    have hbl := blkLt HI.out.cc.box
    have hcmp : ((bs t).toList == []) = decide (t = []) := by
      rw [ByteArray.toList_eq, bs_toList]
      cases t <;> rfl
    by_cases ht : t = []
    · subst ht
      have b1 : ((bs []).toList == []) = true := hcmp
      clear hcmp
      obtain ⟨AP, cP, rfl⟩ := own_sliceC HI.out.cc.rowP
      obtain ⟨AI, cI, rfl⟩ := own_sliceC HI.out.cc.rowI
      have x0 := cellC HI.out.cc.box 0
      have x1 := cellC HI.out.cc.box 1
      have HRUN : Hid (parseM T = .inr (c, k)) := Lib.hid (by rw [HI.out.run]; rfl)
      have HG := Lib.hid (good_calls c AP AI cP cI wr (HI.out.cc.co HI.out.fit) (fun p hp => (HI.out.fit.prs p hp).2) (by simp at hlen; omega) HXR.out.ts)
      unfold coV at HG
      have HCO := Lib.hid (HI.out.cc.co HI.out.fit)
      have HCB := Lib.hid HI.out.cc.box
      have HCC := Lib.hid HI.out.cc
      have HFT := Lib.hid HI.out.fit
      have HSM : Hid (c.ps.length + c.is.length ≤ T.length + 1) := Lib.hid (by simp at hlen; omega)
      clear HI hlen
      go_wp2_with fail
      refine HG.out.mono ?_
      rintro e w2 ⟨hB2, hgood⟩
      have hzs : w.heap.size < w2.heap.size := Nat.lt_of_lt_of_le (blkLt HRB.out) hB2.size
      have hr2 := (hB2.block w.heap.size (blkLt HRB.out)).trans HRB.out
      have z0 := cellC hr2 0
      have z1 := cellC hr2 1
      have zf0 : w2.frozen? ⟨w.heap.size, 0, none⟩ = false := by simp [World.frozen?, hr2]
      have zf1 : w2.frozen? ⟨w.heap.size, 1, none⟩ = false := by simp [World.frozen?, hr2]
      have hb2 := (hB2.block (w.heap.size + 1) hbl).trans HCB.out
      have x0 := cellC hb2 0
      have x1 := cellC hb2 1
      have HB2 := Lib.hid hB2
      have HBW2 := Lib.hid (HBW.out.trans (hB2.mono HBW.out.size))
      clear hB2 hr2 hb2 HG
      rcases hgood with ⟨hg, rfl⟩ | ⟨hg, rfl⟩
      · have HGD := Lib.hid hg
        clear hg
        go_wp2
        refine bodyPost_ret (v := .tuple #[coV AP cP AI cI c, .int .i64 0, .int .i64 0]) (by simp [results, Tryz.results5, go_sem, coV, z0, z1]) rfl ⟨?_, .inr (.inr ⟨c, k, AP, cP, AI, cI, HRUN.out, HGD.out, HFT.out, rfl, ?_, HSM.out⟩)⟩
        · exact (HBW2.out.setCell (p := ⟨w.heap.size, 0, none⟩) (by simp) _).setCell (p := ⟨w.heap.size, 1, none⟩) (by simp) _
        · exact Cc.co (((HCC.out.keep HB2.out).setLow (by omega)).setLow (by omega)) HFT.out
      · have HGD := Lib.hid hg
        clear hg
        go_wp2
        refine bodyPost_ret (v := .tuple #[zeroC, .int .i64 (k : Int), .int .i64 3]) (by simp [results, Tryz.results5, go_sem, zeroC, z0, z1]) rfl ⟨?_, .inr (.inl ⟨c, k, HRUN.out, HGD.out, rfl⟩)⟩
        · exact (HBW2.out.setCell (p := ⟨w.heap.size, 0, none⟩) (by simp) _).setCell (p := ⟨w.heap.size, 1, none⟩) (by simp) _
    · have b1 : ((bs t).toList == []) = false := by rw [hcmp]; exact decide_eq_false ht
      have b2 : (bs t).toList ≠ [] := by rw [ByteArray.toList_eq, bs_toList]; exact ht
      have HBAD := Lib.hid (fun h => HI.out.run.trans (linesM_bad (k := k) (c := c) ht h))
      have HNEXT := Lib.hid (fun c' h1 h2 => HI.out.run.trans (linesM_next (k := k) (c := c) (c' := c') ht h1 h2))
      have htl : t.length ≤ 90001 := by omega
      have HCU := Lib.hid (cut_calls t (by omega) wr HXR.out)
      have hcl := cutL_le t
      have HLT := Lib.hid (fun h => cutL_lt t h)
      have HSP := Lib.hid (splitL_part (cutL t).1)
      clear hcmp
      generalize hce : cutL t = ce at *
      obtain ⟨line, rest, ended⟩ := ce
      dsimp only at hcl HCU HBAD HNEXT HLT HSP
      clear hce ht
      go_wp2_with fail
      refine HCU.out.mono ?_
      rintro e w1 ⟨rfl, hB1⟩
      have hr1 := (hB1.block w.heap.size (blkLt HRB.out)).trans HRB.out
      have HR1 := Lib.hid hr1
      have HC1 := Lib.hid (HI.out.cc.keep hB1)
      have HX1 := Lib.hid (HXR.out.below hB1 (Nat.le_refl _))
      have HB1 := Lib.hid hB1
      have HBW1 := Lib.hid (HBW.out.trans (hB1.mono HBW.out.size))
      have hzs1 : w.heap.size < w1.heap.size := blkLt hr1
      clear hB1 hr1 HCU
      cases ended with
      | false =>
        have HR := Lib.hid (HBAD.out (.inl rfl))
        have z0 := cellC HR1.out 0
        have z1 := cellC HR1.out 1
        have zf0 : w1.frozen? ⟨w.heap.size, 0, none⟩ = false := by simp [World.frozen?, HR1.out]
        have zf1 : w1.frozen? ⟨w.heap.size, 1, none⟩ = false := by simp [World.frozen?, HR1.out]
        have hzs := hzs1
        clear HBAD HNEXT HLT HSP
        go_wp2
        refine bodyPost_ret (v := .tuple #[zeroC, .int .i64 (k : Int), .int .i64 3]) (by simp [results, Tryz.results5, go_sem, zeroC, z0, z1]) rfl ⟨?_, .inl ⟨k, HR.out, rfl⟩⟩
        · exact (HBW1.out.setCell (p := ⟨w.heap.size, 0, none⟩) (by simp) _).setCell (p := ⟨w.heap.size, 1, none⟩) (by simp) _
      | true =>
        have HSL := Lib.hid (split_calls line (by omega) w1 HX1.out)
        go_wp2_with fail
        refine HSL.out.mono ?_
        rintro e w2 ⟨rfl, hB2, hsx⟩
        have HC2 := Lib.hid (HC1.out.keep hB2)
        have HX2 := Lib.hid (HX1.out.below hB2 (Nat.le_refl _))
        have hn1 : 1 ≤ (splitL line).length := List.length_pos_iff.2 (splitL_ne line)
        have hn2 : (splitL line).length ≤ 1000000 := by rw [splitL_len]; have := Lib.count_le line [32]; omega
        have HTK := Lib.hid (take_calls (c := c) (Nat.le_trans (by omega) hB2.size) HC2.out w1.heap.size 0 (splitL line).length rfl hn1 hn2 hsx HX2.out (fun x hx => by have := HSP.out x hx; omega) (by omega) (by omega))
        have HB2 := Lib.hid hB2
        generalize (splitL line).length = N at *
        clear hB2 hsx HSL
        go_wp2_with fail
        refine HTK.out.mono ?_
        intro e w3 h3
        have HX3 := Lib.hid (fun c' (hr : takeM c (splitL line) = some c') => takeM_fit hr HI.out.fit (fun x hx => by have := HSP.out x hx; omega) (by omega))
        rcases h3.cases with ⟨hr, rfl, hB3⟩ | ⟨c', vP', vI', hr, rfl, hc', hB3⟩
        · have HR := Lib.hid (HBAD.out (.inr hr))
          have hr3 := (hB3.block w.heap.size (by omega)).trans ((HB2.out.block w.heap.size hzs1).trans HR1.out)
          have z0 := cellC hr3 0
          have z1 := cellC hr3 1
          have zf0 : w3.frozen? ⟨w.heap.size, 0, none⟩ = false := by simp [World.frozen?, hr3]
          have zf1 : w3.frozen? ⟨w.heap.size, 1, none⟩ = false := by simp [World.frozen?, hr3]
          have hzs : w.heap.size < w3.heap.size := blkLt hr3
          have HBW3 := Lib.hid ((HBW1.out.trans (HB2.out.mono (by omega))).trans (hB3.mono (by omega)))
          clear HBAD HNEXT HLT HSP HTK h3 hr hB3 hr3 HX3
          go_wp2
          refine bodyPost_ret (v := .tuple #[zeroC, .int .i64 (k : Int), .int .i64 3]) (by simp [results, Tryz.results5, go_sem, zeroC, z0, z1]) rfl ⟨?_, .inl ⟨k, HR.out, rfl⟩⟩
          exact (HBW3.out.setCell (p := ⟨w.heap.size, 0, none⟩) (by simp) _).setCell (p := ⟨w.heap.size, 1, none⟩) (by simp) _
        · obtain ⟨hfit, hnum⟩ := HX3.out c' hr
          have hlt := HLT.out trivial
          have HIN : Hid (PI T (w.heap.size + 1) rest (k + 1) c' vP' vI' W1 w3) := Lib.hid ⟨HNEXT.out c' trivial hr, hc', ((HI.out.low.trans (HB1.out.mono (by omega))).trans (HB2.out.mono (by have := HB1.out.size; omega))).trans hB3, hfit, by omega, by omega⟩
          have hsr : (bs rest).size < (bs t).size := by rw [bs_size, bs_size]; exact hlt
          clear HBAD HNEXT HLT HSP HTK h3 hr hB3 HX3 hc' hfit hnum
          go_wp2
          go_roundw
          case rel => exact ⟨rest, k + 1, c', vP', vI', rfl, by go_num, HIN⟩
          case measure => exact hsr
end Go.Proofs.YthkpnbekkoompabGreatDoor

namespace Go.Proofs.YthkpnbekkoompabGreatDoor
open Go.RowKit

/-- The document's example, and its code. -/
def exT : List UInt8 := [112, 114, 111, 99, 32, 109, 97, 105, 110, 32, 48, 32, 48, 32, 52, 10, 114, 101, 116, 117, 114, 110, 32, 48, 10]
def exC : CoM := ⟨[⟨[109, 97, 105, 110], 0, 1, 0, 0, 4⟩], [⟨27, 0, 0⟩]⟩
def chkC (r : Nat ⊕ CoM × Nat) : Bool := match r with
  | .inr (⟨[p], [x]⟩, k) => p.name == [109, 97, 105, 110] && decide (p.frm = 0) && decide (p.to = 1) && decide (p.par = 0) && decide (p.slo = 0) && decide (p.typ = 4) && decide (x.op = 27) && decide (x.arg = 0) && decide (x.mor = 0) && decide (k = 3)
  | _ => false
set_option maxRecDepth 100000 in
theorem exC_chk : chkC (parseM exT) = true := by decide +kernel
theorem chkC_eq {r : Nat ⊕ CoM × Nat} (h : chkC r = true) : r = .inr (exC, 3) := by
  rcases r with k | ⟨⟨ps, is⟩, k⟩
  · simp [chkC] at h
  · match ps, is with
    | [⟨a, b, c, d, e, f⟩], [⟨x, y, z⟩] =>
      simp [chkC] at h
      obtain ⟨⟨⟨⟨⟨⟨⟨⟨⟨rfl, rfl⟩, rfl⟩, rfl⟩, rfl⟩, rfl⟩, rfl⟩, rfl⟩, rfl⟩, rfl⟩ := h
      rfl
    | [], _ => simp [chkC] at h
    | _ :: _ :: _, _ => simp [chkC] at h
    | [_], [] => simp [chkC] at h
    | [_], _ :: _ :: _ => simp [chkC] at h
theorem exC_run : parseM exT = .inr (exC, 3) := chkC_eq exC_chk
theorem exC_good : GoodC exC := by
  refine ⟨⟨⟨by simp [exC], by simp [exC, ordB]⟩, ?_⟩, [0], rfl, ?_⟩
  · intro p hp
    simp [exC] at hp
    subst hp
    refine ⟨⟨by decide, by decide, by decide, .inr rfl, by decide +kernel⟩, ?_⟩
    intro x hx
    simp [exC, body] at hx
    subst hx
    exact ⟨⟨by decide, by decide⟩, by simp [argOk, ansM], by simp [morOk]⟩
  · intro p hp
    simp [exC] at hp
    subst hp
    refine ⟨rfl, ?_, ?_⟩
    · intro i h1 h2 _
      obtain rfl : i = 0 := by simp at h2; omega
      refine ⟨by simp [takesM, insAt, exC, hAt], ?_⟩
      intro q hq
      simp [nexts, insAt, exC] at hq
    · intro i h1 h2
      obtain rfl : i = 0 := by simp at h2; omega
      exact ⟨.inr (by simp [hAt]), fun _ => Met.start⟩
/-- What Parse answers of the example. -/
theorem ex_parsed {w w' : World} {e : Ending} (h : PsP exT w e w') : Below w.heap.size w w' ∧ ∃ A c1 A2 c2, e = .returned (.tuple #[coV A c1 A2 c2 exC, .int .i64 0, .int .i64 0]) ∧ CoAt w' w'.heap.size A c1 A2 c2 exC := by
  refine ⟨h.1, ?_⟩
  rcases h.2 with ⟨k, hr, _⟩ | ⟨c, k, hr, hn, _⟩ | ⟨c, k, A, c1, A2, c2, hr, hg, hf, he, hc, _⟩
  · rw [exC_run] at hr; cases hr
  · rw [exC_run] at hr; cases hr; exact absurd exC_good hn
  · rw [exC_run] at hr; cases hr; exact ⟨A, c1, A2, c2, he, hc⟩
end Go.Proofs.YthkpnbekkoompabGreatDoor

namespace Go.Proofs.YthkpnbekkoompabGreatDoor
open Go.RowKit

set_option maxRecDepth 100000 in
set_option maxHeartbeats 4000000 in
theorem awakeC_calls (w : World) (hX : TX w) : Calls Tryz.prog 4 #[] w fun e w' => e = .returned (.bool true) ∧ Below w.heap.size w w' := by
  have HP := Lib.hid (parse_calls exT (by decide) w hX)
  have HX := Lib.hid hX
  clear hX
  go_enter Tryz.func4, Tryz.ntmps4
  go_wp2_with fail
  refine HP.out.mono ?_
  intro e w1 h1
  obtain ⟨hB, A, c1, A2, c2, rfl, hc⟩ := ex_parsed h1
  obtain ⟨b, off, rfl, hb, hin⟩ := hc.ins (by decide)
  obtain ⟨i0, _, _⟩ := hin 0 (by decide)
  have hcap := hc.capI
  have i0 : w1.cell? ⟨b, off, none⟩ = some (.int .i64 27) := i0
  have HB1 := Lib.hid hB
  have HC := Lib.hid hc
  have HG := Lib.hid (fun W (hW : Below w1.heap.size w1 W) => good_calls exC A (some ⟨b, off, none⟩) c1 c2 W ((HC.out.below hW (Nat.le_refl _)).wide hW.size) (by decide) (by decide) ((HX.out.below (hB.trans (hW.mono hB.size)) (Nat.le_refl _)).ts))
  clear hin hc hB h1 HP HC HX
  unfold coV at HG ⊢
  rw [show exC.ps.length = 1 from rfl, show exC.is.length = 1 from rfl] at HG ⊢
  rw [show exC.is.length = 1 from rfl] at hcap
  have HBX0 := Lib.hid (heapOne w1 #[.slice A 1 c1, .slice (some ⟨b, off, none⟩) 1 c2] 26)
  have HBW0 := Lib.hid ((Below.refl w1.heap.size w1).alloc (Nat.le_refl _) (.cells #[.slice A 1 c1, .slice (some ⟨b, off, none⟩) 1 c2] 26))
  go_wp2_with fail
  generalize w1.alloc (.cells #[.slice A 1 c1, .slice (some ⟨b, off, none⟩) 1 c2] 26) = W1 at *
  have z0 : W1.cell? ⟨w1.heap.size, 0, none⟩ = some (.slice A 1 c1) := cellC HBX0.out 0
  have z1 : W1.cell? ⟨w1.heap.size, 1, none⟩ = some (.slice (some ⟨b, off, none⟩) 1 c2) := cellC HBX0.out 1
  have i0 : W1.cell? ⟨b, off, none⟩ = some (.int .i64 27) := keepC HBW0.out i0 hb
  have HZ := Lib.hid (blkLt HBX0.out)
  refine (HG.out _ HBW0.out).mono ?_
  rintro e w5 ⟨hb5, h5⟩
  obtain ⟨_, rfl⟩ : GoodC exC ∧ e = .returned (.bool true) := h5.resolve_right (fun h => h.1 exC_good)
  have HBc := Lib.hid (HB1.out.trans ((HBW0.out.trans (hb5.mono HBW0.out.size)).mono HB1.out.size))
  have z0 := keepC hb5 z0 (ltC z0)
  have z1 := keepC hb5 z1 (ltC z1)
  have i0 := keepC hb5 i0 (ltC i0)
  clear hb5 h5
  go_wp2
  go_ret
  exact ⟨rfl, HBc.out⟩
end Go.Proofs.YthkpnbekkoompabGreatDoor
