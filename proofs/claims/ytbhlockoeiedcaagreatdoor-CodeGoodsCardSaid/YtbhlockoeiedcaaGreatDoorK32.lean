/-
  code.take: a line's parts.
  Lines and their parts: the library's Cut and Split at one byte.
  code: a line is cut off, and parted; code that is built can be read.
-/
import Derived.Test.YtbhlockoeiedcaaGreatDoorK31
import Derived.Test.YtbhlockoeiedcaaGreatDoorK05
import Derived.Lib.Split
import Derived.Lib.IndexBytes
import Derived.Lib.IndexLaws
import Derived.Lib.CountLaws
import Derived.Shelf.Strings.Split
namespace Go.Proofs.YtbhlockoeiedcaaGreatDoor
open Go.RowKit

theorem TkP.cases {bc : Nat} {r : Option CoM} {w w' : World} {e : Ending} (h : TkP bc r w e w') : (r = none ∧ e = .returned (.bool false) ∧ Below bc w w') ∨ ∃ c' vP vI, r = some c' ∧ e = .returned (.bool true) ∧ Cc bc vP vI c' w' ∧ Below bc w w' := by
  obtain ⟨hb, h⟩ := h
  cases r with
  | none => exact .inl ⟨rfl, h, hb⟩
  | some c' =>
    obtain ⟨he, vP, vI, hc⟩ := h
    exact .inr ⟨c', vP, vI, rfl, he, hc, hb⟩
section
variable {bc : Nat} {vP vI : Value} {c : CoM} {w : World} {ps : List (List UInt8)}
set_option maxRecDepth 100000 in
set_option maxHeartbeats 2000000 in
theorem take_calls (hbc : bc ≤ w.heap.size) (hc : Cc bc vP vI c w) (b off n : Nat) (hn : ps.length = n) (hn1 : 1 ≤ n) (hn2 : n ≤ 1000000) (hA : SxAt w (some ⟨b, off, none⟩) ps) (hT : TX w) (hl : ∀ t ∈ ps, t.length ≤ 100000) (hfp : c.ps.length ≤ 1000000) (hfi : c.is.length ≤ 1000000) :
    Calls Tryz.prog 36 #[.pointer (some ⟨bc, 0, none⟩), .slice (some ⟨b, off, none⟩) n n] w (TkP bc (takeM c ps) w) := by
  obtain ⟨b', off', hbb, hb, hcl⟩ := hA (by omega)
  injection hbb with hbb
  injection hbb with e1 e2
  subst e1 e2
  have h0 : 0 < ps.length := by omega
  have q0 := hcl 0 h0
  rw [Nat.add_zero] at q0
  have g0 : ps.getD 0 [] = ps[0] := by rw [List.getD_eq_getElem?_getD, List.getElem?_eq_getElem h0]; rfl
  have hcmp : ((bs ps[0]).toList == [112, 114, 111, 99]) = decide (ps[0] = procB) := by
    rw [ByteArray.toList_eq, bs_toList]
    by_cases h : ps[0] = procB
    · rw [h, decide_eq_true rfl]; rfl
    · rw [decide_eq_false h]; exact beq_eq_false_iff_ne.2 h
  have hk0 : (1 : Int) ≤ (n : Int) := by omega
  have hk1 : (0 : Int) < (n : Int) := by omega
  by_cases hp : ps[0] = procB
  · have HM : Hid (takeM c ps = takePM c ps) := Lib.hid (by unfold takeM; rw [g0, if_pos hp])
    have b1 : ((bs ps[0]).toList == [112, 114, 111, 99]) = true := by rw [hcmp]; exact decide_eq_true hp
    have HTK : Hid (Calls Tryz.prog 59 #[.pointer (some ⟨bc, 0, none⟩), .slice (some ⟨b, off, none⟩) n n] w (TkP bc (takePM c ps) w)) := Lib.hid (by
      by_cases h5 : ps.length = 5
      · obtain rfl : n = 5 := by omega
        exact takeP_five hbc hc b off 5 h5 (by omega) hA hT hl hfp hfi
      · rw [← hn]
        exact takeP_len _ _ h5)
    generalize ps[0] = t0 at *
    clear hcl hA hT hl hc hn g0 hp hcmp
    go_enter Tryz.func36, Tryz.ntmps36
    go_wp2_with fail
    refine HTK.out.mono ?_
    intro e w1 h1
    rcases h1.cases with ⟨hr, rfl, hB⟩ | ⟨c', vP', vI', hr, rfl, hc', hB⟩
    · have HR := Lib.hid (HM.out.trans hr)
      have HB := Lib.hid hB
      clear hr hB h1
      go_wp2
      go_ret
      exact tk_none HR.out HB.out
    · have HR := Lib.hid (HM.out.trans hr)
      have HB := Lib.hid hB
      have HC := Lib.hid hc'
      clear hr hB h1 hc'
      go_wp2
      go_ret
      exact tk_some HR.out HB.out HC.out
  · have b1 : ((bs ps[0]).toList == [112, 114, 111, 99]) = false := by rw [hcmp]; exact decide_eq_false hp
    obtain ⟨AP, cP, rfl⟩ := own_sliceC hc.rowP
    have x0 := cellC hc.box 0
    by_cases hps : c.ps = []
    · have HR : Hid (takeM c ps = none) := Lib.hid (by unfold takeM; rw [g0, if_neg hp, if_pos hps])
      have hpl : c.ps.length = 0 := by rw [hps]; rfl
      rw [hpl] at x0
      generalize ps[0] = t0 at *
      clear hcl hA hT hl hc hn g0 hp hcmp hpl hps
      go_enter Tryz.func36, Tryz.ntmps36
      go_wp2
      go_ret
      exact tk_none HR.out (Below.refl _ _)
    · have HM : Hid (takeM c ps = takeIM c ps) := Lib.hid (by unfold takeM; rw [g0, if_neg hp, if_neg hps])
      have hpl : 0 < c.ps.length := List.length_pos_iff.2 hps
      have l1 : decide ((0 : Int) < (c.ps.length : Int)) = true := decide_eq_true (by omega)
      have l2 : decide (0 < c.ps.length) = true := decide_eq_true hpl
      have HTK := Lib.hid (takeI_calls hbc hc b off n hn hn1 hn2 hA hT hl hps hfp hfi)
      generalize ps[0] = t0 at *
      clear hcl hA hT hl hc hn g0 hp hcmp hps
      go_enter Tryz.func36, Tryz.ntmps36
      go_wp2_with fail
      refine HTK.out.mono ?_
      intro e w1 h1
      rcases h1.cases with ⟨hr, rfl, hB⟩ | ⟨c', vP', vI', hr, rfl, hc', hB⟩
      · have HR := Lib.hid (HM.out.trans hr)
        have HB := Lib.hid hB
        clear hr hB h1
        go_wp2
        go_ret
        exact tk_none HR.out HB.out
      · have HR := Lib.hid (HM.out.trans hr)
        have HB := Lib.hid hB
        have HC := Lib.hid hc'
        clear hr hB h1 hc'
        go_wp2
        go_ret
        exact tk_some HR.out HB.out HC.out
end
end Go.Proofs.YtbhlockoeiedcaaGreatDoor

namespace Go.Proofs.YtbhlockoeiedcaaGreatDoor
open Go.Lib

theorem cutL_eq (t : List UInt8) : Lib.cut t [10] = cutL t := by
  have key : ∀ t : List UInt8, (indexByte t 10 = -1 → cutL t = (t, [], false)) ∧ (∀ i : Nat, indexByte t 10 = (i : Int) → cutL t = (t.take i, t.drop (i + 1), true)) := by
    intro t
    induction t with
    | nil => exact ⟨fun _ => rfl, fun i h => by simp [indexByte] at h⟩
    | cons b r ih =>
      have hg := indexByte_ge r 10
      by_cases hb : b = 10
      · refine ⟨fun h => ?_, fun i h => ?_⟩
        · simp [indexByte, hb] at h
        · simp [indexByte, hb] at h
          obtain rfl : i = 0 := by omega
          simp [cutL, hb]
      · refine ⟨fun h => ?_, fun i h => ?_⟩
        · simp only [indexByte, beq_iff_eq, if_neg hb] at h
          split at h
          · rename_i h1
            simp [cutL, hb, ih.1 h1]
          · rename_i h1; omega
        · simp only [indexByte, beq_iff_eq, if_neg hb] at h
          split at h
          · omega
          · rename_i h1
            obtain ⟨j, rfl⟩ : ∃ j, i = j + 1 := ⟨i - 1, by omega⟩
            have := ih.2 j (by omega)
            simp [cutL, hb, this]
  unfold Lib.cut
  rw [index_one]
  by_cases h : 0 ≤ indexByte t 10
  · rw [if_pos h]
    have := (key t).2 (indexByte t 10).toNat (by omega)
    rw [this]; rfl
  · rw [if_neg h]
    have := (key t).1 (by have := indexByte_ge t 10; omega)
    rw [this]
theorem splitL_ne (t : List UInt8) : splitL t ≠ [] := by
  cases t with
  | nil => simp [splitL]
  | cons c r => unfold splitL; split <;> (try split) <;> simp
theorem splitL_at (t : List UInt8) : (indexByte t 32 = -1 → splitL t = [t]) ∧ (∀ i : Nat, indexByte t 32 = (i : Int) → splitL t = t.take i :: splitL (t.drop (i + 1))) := by
  induction t with
  | nil => exact ⟨fun _ => rfl, fun i h => by simp [indexByte] at h⟩
  | cons b r ih =>
    have hg := indexByte_ge r 32
    by_cases hb : b = 32
    · refine ⟨fun h => ?_, fun i h => ?_⟩
      · simp [indexByte, hb] at h
      · simp [indexByte, hb] at h
        obtain rfl : i = 0 := by omega
        simp [splitL, hb]
    · refine ⟨fun h => ?_, fun i h => ?_⟩
      · simp only [indexByte, beq_iff_eq, if_neg hb] at h
        split at h
        · rename_i h1
          simp [splitL, hb, ih.1 h1]
        · rename_i h1; omega
      · simp only [indexByte, beq_iff_eq, if_neg hb] at h
        split at h
        · omega
        · rename_i h1
          obtain ⟨j, rfl⟩ : ∃ j, i = j + 1 := ⟨i - 1, by omega⟩
          have := ih.2 j (by omega)
          simp [splitL, hb, this]
theorem splitK_eq : ∀ (n : Nat) (t : List UInt8), t.length = n → splitK [32] 0 (Lib.count t [32]) t = splitL t := by
  intro n
  induction n using Nat.strongRecOn with
  | _ n ih =>
    intro t ht
    have hc : Lib.count t [32] = if index t [32] == -1 then 0 else 1 + Lib.countFrom [32] t.length (t.drop ((index t [32]).toNat + 1)) := rfl
    rw [index_one] at hc
    by_cases h : indexByte t 32 = -1
    · rw [hc, h, (splitL_at t).1 h]
      rfl
    · have hg := indexByte_ge t 32
      obtain ⟨i, hi⟩ : ∃ i : Nat, indexByte t 32 = (i : Int) := ⟨(indexByte t 32).toNat, by omega⟩
      have hlt : i < t.length := by
        have := (indexByte_some hi).1
        exact (List.getElem?_eq_some_iff.1 this).1
      have e1 : Lib.count t [32] = Lib.count (t.drop (i + 1)) [32] + 1 := by
        rw [hc, hi]
        rw [if_neg (by simp)]
        have : Lib.countFrom [32] t.length (t.drop (i + 1)) = Lib.count (t.drop (i + 1)) [32] := by
          unfold Lib.count
          exact countFrom_fuel (by simp) _ _ (by rw [List.length_drop]; omega) _ (by omega)
        rw [Int.toNat_natCast, this]; omega
      rw [e1, (splitL_at t).2 i hi]
      simp only [splitK]
      rw [index_one, hi, if_neg (by simp), Int.toNat_natCast]
      rw [Nat.add_zero]
      have := ih (t.drop (i + 1)).length (by rw [List.length_drop]; omega) (t.drop (i + 1)) rfl
      show _ :: splitK [32] 0 _ (List.drop (i + 1) t) = _
      rw [this]
theorem splitL_len (t : List UInt8) : (splitL t).length = Lib.count t [32] + 1 := by
  have key : ∀ n (t : List UInt8), t.length = n → (splitL t).length = Lib.count t [32] + 1 := by
    intro n
    induction n using Nat.strongRecOn with
    | _ n ih =>
      intro t ht
      have hc : Lib.count t [32] = if index t [32] == -1 then 0 else 1 + Lib.countFrom [32] t.length (t.drop ((index t [32]).toNat + 1)) := rfl
      rw [index_one] at hc
      by_cases h : indexByte t 32 = -1
      · rw [hc, h, (splitL_at t).1 h]
        rfl
      · have hg := indexByte_ge t 32
        obtain ⟨i, hi⟩ : ∃ i : Nat, indexByte t 32 = (i : Int) := ⟨(indexByte t 32).toNat, by omega⟩
        have hlt : i < t.length := by
          have := (indexByte_some hi).1
          exact (List.getElem?_eq_some_iff.1 this).1
        have e1 : Lib.count t [32] = Lib.count (t.drop (i + 1)) [32] + 1 := by
          rw [hc, hi]
          rw [if_neg (by simp)]
          have : Lib.countFrom [32] t.length (t.drop (i + 1)) = Lib.count (t.drop (i + 1)) [32] := by
            unfold Lib.count
            exact countFrom_fuel (by simp) _ _ (by rw [List.length_drop]; omega) _ (by omega)
          rw [Int.toNat_natCast, this]; omega
        rw [e1, (splitL_at t).2 i hi, List.length_cons, ih (t.drop (i + 1)).length (by rw [List.length_drop]; omega) (t.drop (i + 1)) rfl]
  exact key _ t rfl
theorem splitL_part (t : List UInt8) : ∀ x ∈ splitL t, x.length ≤ t.length := by
  induction t with
  | nil => simp [splitL]
  | cons c r ih =>
    intro x hx
    unfold splitL at hx
    split at hx
    · rcases List.mem_cons.1 hx with rfl | hx
      · simp
      · have := ih x hx; simp; omega
    · split at hx
      · simp at hx; subst hx; simp
      · rename_i h tl he
        rw [he] at ih
        rcases List.mem_cons.1 hx with rfl | hx
        · have := ih h (by simp); simp; omega
        · have := ih x (by simp [hx]); simp; omega
theorem cutL_le (t : List UInt8) : (cutL t).1.length ≤ t.length ∧ (cutL t).2.1.length ≤ t.length := by
  induction t with
  | nil => simp [cutL]
  | cons c r ih =>
    unfold cutL
    split
    · simp
    · simp; omega

end Go.Proofs.YtbhlockoeiedcaaGreatDoor

namespace Go.Proofs.YtbhlockoeiedcaaGreatDoor
open Go.RowKit

theorem bs_mk (l : List UInt8) : (⟨l.toArray⟩ : ByteArray) = bs l := rfl
theorem cut_calls (t : List UInt8) (ht : t.length ≤ 1000000) (w : World) (hT : TX w) : Calls Tryz.prog 35 #[.string (bs t), .string ⟨#[10]⟩] w fun e w' => e = .returned (.tuple #[.string (bs (cutL t).1), .string (bs (cutL t).2.1), .bool (cutL t).2.2]) ∧ Below w.heap.size w w' := by
  obtain ⟨m, hm⟩ := hT.mx
  refine (Tryz.cutW (bs t) ⟨#[10]⟩ m w (by rw [bs_size]; omega) hm).mono ?_
  rintro e w' ⟨rfl, n, rfl⟩
  rw [bs_toList, show (⟨#[10]⟩ : ByteArray).data.toList = [10] from rfl, cutL_eq, bs_mk, bs_mk]
  exact ⟨rfl, below_drewC (Below.refl _ _) n⟩
def SpP (t : List UInt8) (w : World) (e : Ending) (w' : World) : Prop :=
  e = .returned (.slice (some ⟨w.heap.size, 0, none⟩) (splitL t).length (splitL t).length) ∧ Below w.heap.size w w' ∧ SxAt w' (some ⟨w.heap.size, 0, none⟩) (splitL t)
theorem split_calls (t : List UInt8) (ht : t.length ≤ 1000000) (w : World) (hT : TX w) : Calls Tryz.prog 37 #[.string (bs t), .string ⟨#[32]⟩] w (SpP t w) := by
  obtain ⟨m, hm⟩ := hT.mx
  refine (Tryz.splitW (bs t) ⟨#[32]⟩ m w (by rw [bs_size]; omega) hm (by decide)).mono ?_
  rintro e w' ⟨rfl, rfl⟩
  have hcnt : Lib.countB (bs t) ⟨#[32]⟩ + 1 = (splitL t).length := by rw [splitL_len]; unfold Lib.countB; rw [bs_toList]
  have hd := Lib.splitB_data ⟨#[32]⟩ 0 (Lib.countB (bs t) ⟨#[32]⟩) (bs t)
  rw [bs_toList, show (⟨#[32]⟩ : ByteArray).data.toList = [32] from rfl] at hd
  have hk : Lib.splitK [32] 0 (Lib.countB (bs t) ⟨#[32]⟩) t = splitL t := by
    unfold Lib.countB; rw [bs_toList]; exact splitK_eq _ t rfl
  rw [hk] at hd
  rw [hcnt]
  refine ⟨rfl, (Below.refl _ _).alloc (Nat.le_refl _) _, fun _ => ⟨w.heap.size, 0, rfl, by simp, fun j hj => ?_⟩⟩
  rw [cellC (heapOne w _ _) (0 + j), Nat.zero_add, List.getElem?_toArray, List.getElem?_map]
  have h1 := congrArg (·[j]?) hd
  rw [List.getElem?_map, List.getElem?_eq_getElem hj] at h1
  cases hx : (Lib.splitB ⟨#[32]⟩ 0 (Lib.countB (bs t) ⟨#[32]⟩) (bs t))[j]? with
  | none => rw [hx] at h1; cases h1
  | some b =>
    rw [hx] at h1
    have h2 := Option.some.inj h1
    simp only [Option.map_some]
    rw [← h2]
    rfl

/-! What is built fits. -/
structure CFit (c : CoM) : Prop where
  prs : ∀ p ∈ c.ps, p.fit ∧ p.name.length ≤ 100000
  ins : ∀ x ∈ c.is, x.fit
theorem numM_i64 {t : List UInt8} {v : Int} (h : numM t = some v) : i64 v := by
  unfold numM at h
  split at h
  · rename_i u hu
    split at h
    · obtain rfl := Option.some.inj h
      exact atoi_i64 hu
    · cases h
  · cases h
theorem numsM_i64 : ∀ (ps : List (List UInt8)) (l : List Int), numsM ps = some l → ∀ v ∈ l, i64 v
  | [], l, h => by simp [numsM] at h; subst h; simp
  | t :: r, l, h => by
    simp only [numsM] at h
    cases ht : numM t with
    | none => rw [ht] at h; cases h
    | some n =>
      cases hr : numsM r with
      | none => rw [ht, hr] at h; cases h
      | some o =>
        rw [ht, hr] at h
        obtain rfl := Option.some.inj h
        intro v hv
        rcases List.mem_cons.1 hv with rfl | hv
        · exact numM_i64 ht
        · exact numsM_i64 r o hr v hv
theorem getD_i64 {l : List Int} (h : ∀ v ∈ l, i64 v) (k : Nat) : i64 (l.getD k 0) := by
  rw [List.getD_eq_getElem?_getD]
  cases hx : l[k]? with
  | none => exact ⟨by decide, by decide⟩
  | some v => exact h v (List.mem_of_getElem? hx)
theorem endAt_mem (n : Int) : ∀ (ps : List PrM) (p : PrM), p ∈ endAt n ps → ∃ q ∈ ps, p = q ∨ p = { q with to := n }
  | [], p, h => by cases h
  | [q], p, h => by
    simp [endAt] at h
    exact ⟨q, by simp, .inr h⟩
  | q :: r :: s, p, h => by
    simp only [endAt] at h
    rcases List.mem_cons.1 h with rfl | h
    · exact ⟨p, by simp, .inl rfl⟩
    · obtain ⟨y, hy, hx⟩ := endAt_mem n (r :: s) p h
      exact ⟨y, List.mem_cons_of_mem _ hy, hx⟩
theorem takeM_fit {c c' : CoM} {ps : List (List UInt8)} (h : takeM c ps = some c') (hf : CFit c) (hl : ∀ t ∈ ps, t.length ≤ 100000) (hn : c.is.length ≤ 1000000) : CFit c' ∧ c'.ps.length + c'.is.length = c.ps.length + c.is.length + 1 := by
  unfold takeM at h
  split at h
  · unfold takePM at h
    split at h
    · rename_i h5
      cases hx : numsM (ps.drop 2) with
      | none => rw [hx] at h; cases h
      | some l =>
        rw [hx] at h
        obtain rfl := Option.some.inj h
        have hv := numsM_i64 _ _ hx
        have h1 : ps.getD 1 [] ∈ ps := by
          rw [List.getD_eq_getElem?_getD, List.getElem?_eq_getElem (by omega : 1 < ps.length)]
          exact List.getElem_mem _
        have hi : i64 (c.is.length : Int) := ⟨by omega, by omega⟩
        refine ⟨⟨fun p hp => ?_, hf.ins⟩, by simp; omega⟩
        rcases List.mem_append.1 hp with hp | hp
        · exact hf.prs p hp
        · simp at hp; subst hp
          exact ⟨⟨hi, hi, getD_i64 hv 0, getD_i64 hv 1, getD_i64 hv 2⟩, hl _ h1⟩
    · cases h
  · split at h
    · cases h
    · unfold takeIM at h
      cases hx : numsM (ps.drop 1) with
      | none => rw [hx] at h; cases h
      | some l =>
        rw [hx] at h
        dsimp only at h
        split at h
        · cases h
        · obtain rfl := Option.some.inj h
          have hv := numsM_i64 _ _ hx
          have ho := opM_le (ps.getD 0 [])
          refine ⟨⟨fun p hp => ?_, fun x hx => ?_⟩, by simp [endAt_len]; omega⟩
          · obtain ⟨q, hq, hpq⟩ := endAt_mem _ _ _ hp
            have := hf.prs q hq
            rcases hpq with rfl | rfl
            · exact this
            · have hi2 : i64 ((c.is.length : Int) + 1) := ⟨by omega, by omega⟩
              exact ⟨⟨this.1.1, hi2, this.1.2.2.1, this.1.2.2.2.1, this.1.2.2.2.2⟩, this.2⟩
          · rcases List.mem_append.1 hx with hx | hx
            · exact hf.ins x hx
            · obtain rfl := List.mem_singleton.1 hx
              have hi2 : i64 ((opM (ps.getD 0 []) : Nat) : Int) := ⟨by omega, by omega⟩
              exact ⟨hi2, getD_i64 hv 0, getD_i64 hv 1⟩

/-! Code that is built, read. -/
theorem flatP_get : ∀ (ps : List PrM) (i : Nat) (h : i < ps.length), (flatP ps)[i * 6]? = some (.string (bs (ps[i]).name)) ∧ (flatP ps)[i * 6 + 1]? = some (.int .i64 (ps[i]).frm) ∧ (flatP ps)[i * 6 + 2]? = some (.int .i64 (ps[i]).to) ∧ (flatP ps)[i * 6 + 3]? = some (.int .i64 (ps[i]).par) ∧ (flatP ps)[i * 6 + 4]? = some (.int .i64 (ps[i]).slo) ∧ (flatP ps)[i * 6 + 5]? = some (.int .i64 (ps[i]).typ)
  | [], i, h => by simp at h
  | p :: r, 0, h => by simp [flatP, prC]
  | p :: r, i + 1, h => by
    have := flatP_get r i (by simpa using h)
    have e : flatP (p :: r) = prC p ++ flatP r := rfl
    have key : ∀ k, (flatP (p :: r))[6 + k]? = (flatP r)[k]? := fun k => by
      rw [e, List.getElem?_append_right (by simp [prC])]; simp [prC]
    rw [show (i + 1) * 6 = 6 + i * 6 by omega, Nat.add_assoc, Nat.add_assoc, Nat.add_assoc, Nat.add_assoc, Nat.add_assoc, key, key, key, key, key, key]
    simpa using this
theorem flatI_get : ∀ (xs : List InM) (i : Nat) (h : i < xs.length), (flatI xs)[i * 3]? = some (.int .i64 (xs[i]).op) ∧ (flatI xs)[i * 3 + 1]? = some (.int .i64 (xs[i]).arg) ∧ (flatI xs)[i * 3 + 2]? = some (.int .i64 (xs[i]).mor)
  | [], i, h => by simp at h
  | p :: r, 0, h => by simp [flatI, inC]
  | p :: r, i + 1, h => by
    have := flatI_get r i (by simpa using h)
    have e : flatI (p :: r) = inC p ++ flatI r := rfl
    have key : ∀ k, (flatI (p :: r))[3 + k]? = (flatI r)[k]? := fun k => by
      rw [e, List.getElem?_append_right (by simp [inC])]; simp [inC]
    rw [show (i + 1) * 3 = 3 + i * 3 by omega, Nat.add_assoc, Nat.add_assoc, key, key, key]
    simpa using this
theorem own_read {w : World} {base n sz : Nat} {e : TypeId} {v : Value} {xs : List Value} (h : w.ownsRow base e sz v n xs) (hn : 0 < n) : ∃ g cap, v = .slice (some ⟨g, 0, none⟩) n cap ∧ g < w.heap.size ∧ n ≤ cap ∧ cap ≤ maxLen ∧ ∀ j u, xs[j]? = some u → w.cell? ⟨g, j, none⟩ = some u := by
  have h' := h
  rcases h.2 with ⟨_, h0⟩ | ⟨g, cap, cur, rfl, hb, hg, h1, h2, h3, h4⟩
  · omega
  · refine ⟨g, cap, rfl, blkLt hg, h1, h2, fun j u hu => ?_⟩
    have := h'.cells (g := g) rfl j u hu
    rwa [Addr.add_lit, Nat.zero_add] at this
theorem own_cap {w : World} {base n sz c : Nat} {A : Option Addr} {e : TypeId} {xs : List Value} (h : w.ownsRow base e sz (.slice A n c) n xs) : n ≤ c ∧ c ≤ maxLen := by
  rcases h.2 with ⟨h0, h1⟩ | ⟨g, cap, cur, hv, hb, hg, h1, h2, h3, h4⟩
  · injection h0 with _ a b; subst b; exact ⟨by omega, by unfold maxLen; omega⟩
  · injection hv with _ _ b; subst b; exact ⟨h1, h2⟩
theorem Cc.co {bc : Nat} {A A2 : Option Addr} {c1 c2 : Nat} {c : CoM} {w : World} (h : Cc bc (.slice A c.ps.length c1) (.slice A2 c.is.length c2) c w) (hf : CFit c) : CoAt w w.heap.size A c1 A2 c2 c := by
  have k1 := own_cap h.rowP
  have k2 := own_cap h.rowI
  refine ⟨fun hn => ?_, fun hn => ?_, k1.1, k2.1, ⟨k1.2, k2.2⟩, fun p hp => (hf.prs p hp).1, hf.ins⟩
  · obtain ⟨g, cap, hv, hg, _, _, hc⟩ := own_read h.rowP hn
    injection hv with hv
    refine ⟨g, 0, hv, hg, fun i hi => ?_⟩
    obtain ⟨q0, q1, q2, q3, q4, q5⟩ := flatP_get c.ps i hi
    rw [Nat.zero_add]
    exact ⟨hc _ _ q0, hc _ _ q1, hc _ _ q2, hc _ _ q3, hc _ _ q4, hc _ _ q5⟩
  · obtain ⟨g, cap, hv, hg, _, _, hc⟩ := own_read h.rowI hn
    injection hv with hv
    refine ⟨g, 0, hv, hg, fun i hi => ?_⟩
    obtain ⟨q0, q1, q2⟩ := flatI_get c.is i hi
    rw [Nat.zero_add]
    exact ⟨hc _ _ q0, hc _ _ q1, hc _ _ q2⟩

end Go.Proofs.YtbhlockoeiedcaaGreatDoor
