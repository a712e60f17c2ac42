/-
  code: the numbers of a line; the Op of a word; how many numbers stand behind it.
-/
import Derived.Test.YthkpnbekkoompabGreatDoorCpM
import Derived.Test.YthkpnbekkoompabGreatDoorCoX
import Derived.Test.YthkpnbekkoompabGreatDoorQ03
import Derived.LoopTactic
namespace Go.Proofs.YthkpnbekkoompabGreatDoor
open Go.RowKit

/-- The tables, and what the library's own variables hold. -/
structure TX (w : World) : Prop where
  ts : TS w
  pow : Lib.TabIs Tryz.prog w "internal/strconv.uint64pow10" .u64 Lib.pow10Tab
  syn : ∃ te pe, w.cell? ⟨5, 0, none⟩ = some (.iface te pe)
  rng : ∃ te pe, w.cell? ⟨6, 0, none⟩ = some (.iface te pe)
  mx : ∃ m, w.cell? ⟨1, 0, none⟩ = some (.int .i64 m)
theorem Tryz.gPow : Tryz.prog.globalNamed "internal/strconv.uint64pow10" = some 7 := by kernel_rfl
theorem tabIs_keep {w w' : World} {B : Nat} (h : Lib.TabIs Tryz.prog w "internal/strconv.uint64pow10" .u64 Lib.pow10Tab) (hb : Below B w w') (hB : w.heap.size ≤ B) : Lib.TabIs Tryz.prog w' "internal/strconv.uint64pow10" .u64 Lib.pow10Tab := by
  unfold Lib.TabIs World.var? at h ⊢
  rw [Tryz.gPow] at h ⊢
  simp only [Option.bind_some] at h ⊢
  have hlt : 7 < w.heap.size := by
    rcases Nat.lt_or_ge 7 w.heap.size with h' | h'
    · exact h'
    · rw [Array.getElem?_eq_none h'] at h; simp at h
  rw [hb.block _ (by omega)]
  exact h
theorem TX.below {w w' : World} {B : Nat} (h : TX w) (hb : Below B w w') (hB : w.heap.size ≤ B) : TX w' :=
  ⟨h.ts.below hb hB, tabIs_keep h.pow hb hB, h.syn.imp fun _ => Exists.imp fun _ hc => keepC hb hc (by have := ltC hc; omega), h.rng.imp fun _ => Exists.imp fun _ hc => keepC hb hc (by have := ltC hc; omega), h.mx.imp fun _ hc => keepC hb hc (by have := ltC hc; omega)⟩
theorem itoa_calls (n : Int) (hn : i64 n) (w : World) (hT : TX w) : Calls Tryz.prog 52 #[.int .i64 n] w fun e w' => e = .returned (.string (bs (Lib.itoa n))) ∧ Below w.heap.size w w' := by
  refine (Tryz.itoaW n hn.1 hn.2 w hT.pow).mono ?_
  rintro e w' ⟨rfl, k, os, rfl⟩
  exact ⟨rfl, rfl, rfl, rfl, by show w.heap.size ≤ (w.heap ++ os).size; rw [Array.size_append]; omega, fun j hj => by show (w.heap ++ os)[j]? = _; rw [Array.getElem?_append_left hj]⟩
theorem ret_nat {a b : Nat} (h : a = b) : Ending.returned (.int .i64 (a : Int)) = .returned (.int .i64 (b : Int)) := by rw [h]
/-- What Atoi answers. -/
def AtoP (t : List UInt8) (w : World) (e : Ending) (w' : World) : Prop :=
  Below w.heap.size w w' ∧ ((∃ v, Lib.atoiAll t = .ok v ∧ e = .returned (.tuple #[.int .i64 v, .nilIface])) ∨ ((∀ v, Lib.atoiAll t ≠ .ok v) ∧ ∃ v N, e = .returned (.tuple #[.int .i64 v, .iface 142 (.pointer (some ⟨N, 0, none⟩))])))
theorem below_bytes (w : World) (e : TypeId) (t : ByteArray) : Below w.heap.size w (Lib.bytesWorld w e t) := by
  unfold Lib.bytesWorld
  refine ⟨rfl, rfl, rfl, ?_, fun k hk => ?_⟩
  · simp [World.freeze]
  · simp only [World.freeze]
    rw [if_neg (by decide)]
    dsimp only
    rw [Array.getElem?_modify, if_neg (by omega)]
    exact Below.heap_alloc w.drew _ k hk
theorem atoi_calls (t : List UInt8) (ht : t.length ≤ 1000000) (w : World) (hT : TX w) : Calls Tryz.prog 64 #[.string (bs t)] w (AtoP t w) := by
  have hs : (bs t).size = t.length := bs_size t
  rcases h : Lib.atoiAll t with v | _ | _
  · refine (Tryz.atoiOk (bs t) (by omega) v (by rw [bs_toList]; exact h) w).mono ?_
    rintro e w' ⟨rfl, hw⟩
    refine ⟨?_, .inl ⟨v, h, rfl⟩⟩
    rcases hw with rfl | ⟨u, rfl⟩
    · exact Below.refl _ _
    · exact below_bytes _ _ _
  · obtain ⟨te, pe, hv⟩ := hT.syn
    refine (Tryz.atoiSyn (bs t) (by omega) (by rw [bs_toList]; exact ⟨fun v hv => (by rw [h] at hv; cases hv), fun hv => (by rw [h] at hv; cases hv)⟩) _ w hv (.inr ⟨te, pe, rfl⟩)).mono ?_
    rintro e w' ⟨N, rfl, _, _, hb⟩
    exact ⟨hb, .inr ⟨fun v hv => (by rw [h] at hv; cases hv), 0, N, rfl⟩⟩
  · obtain ⟨te, pe, hv⟩ := hT.rng
    refine (Tryz.atoiRng (bs t) (by omega) (by rw [bs_toList]; exact h) _ w hv (.inr ⟨te, pe, rfl⟩)).mono ?_
    rintro e w' ⟨N, rfl, _, _, hb⟩
    exact ⟨hb, .inr ⟨fun v hv => (by rw [h] at hv; cases hv), _, N, rfl⟩⟩

set_option maxRecDepth 100000 in
set_option maxHeartbeats 1000000 in
theorem many_calls (k : Nat) (hk : k < 30) (w : World) (hS : Shp w) : Calls Tryz.prog 35 #[.int .i64 (k : Int)] w fun e w' => e = .returned (.int .i64 (manyM k : Int)) ∧ w = w' := by
  by_cases h7 : k = 7
  · subst h7
    rw [show manyM 7 = 2 from rfl]
    go_enter Tryz.func35, Tryz.ntmps35
    go_wp2
    go_ret
    exact ⟨rfl, rfl⟩
  · have s1 := (hS.1 k hk).2.1
    have HM : Hid (manyM k = if akL.getD k 0 = 0 then 0 else 1) := Lib.hid (by unfold manyM; rw [if_neg h7])
    generalize akL.getD k 0 = v at *
    have e1 : ((k : Int) == 7) = false := beq_eq_false_iff_ne.2 (by omega)
    have e0 : (k == 7) = false := beq_eq_false_iff_ne.2 h7
    have hk0 : (0 : Int) ≤ (k : Int) := by omega
    have hk1 : (k : Int) < 30 := by omega
    clear h7 hS
    by_cases hv : v = 0
    · have e2 : (v == 0) = true := beq_iff_eq.2 hv
      have HM2 := Lib.hid (HM.out.trans (if_pos hv))
      subst hv
      clear e2 HM
      go_enter Tryz.func35, Tryz.ntmps35
      go_wp2
      go_ret
      exact ⟨by rw [HM2.out]; rfl, rfl⟩
    · have e2 : (v == 0) = false := beq_eq_false_iff_ne.2 hv
      have e3 : (v != 0) = true := by simp [bne, e2]
      have HM2 := Lib.hid (HM.out.trans (if_neg hv))
      clear HM hv
      go_enter Tryz.func35, Tryz.ntmps35
      go_wp2
      go_ret
      exact ⟨by rw [HM2.out]; rfl, rfl⟩

theorem opF_step (t : List UInt8) (k : Nat) (h : k ≤ 29) : opF t (30 - k) k = if opW.getD k [] = t then k else opF t (30 - (k + 1)) (k + 1) := by
  rw [show 30 - k = (30 - (k + 1)) + 1 by omega]; rfl
theorem opF_le (t : List UInt8) : ∀ f k, f + k ≤ 30 → opF t f k ≤ 29
  | 0, k, _ => by simp [opF]
  | f + 1, k, h => by
    unfold opF
    split
    · omega
    · exact opF_le t f (k + 1) (by omega)
theorem opM_le (t : List UInt8) : opM t ≤ 29 := opF_le t 29 1 (by omega)
theorem str_eqC {a b : List UInt8} : ((bs a).toList == (bs b).toList) = decide (a = b) := by
  rw [ByteArray.toList_eq, ByteArray.toList_eq, bs_toList, bs_toList]
  rw [Bool.eq_iff_iff]; simp

set_option maxRecDepth 100000 in
set_option maxHeartbeats 1000000 in
theorem opOf_calls (t : List UInt8) (w : World) (hS : Shp w) : Calls Tryz.prog 44 #[.string (bs t)] w fun e w' => e = .returned (.int .i64 (opM t : Int)) ∧ w = w' := by
  have HS := Lib.hid hS
  have HO := Lib.hid (show opM t = opF t (30 - 1) 1 from rfl)
  generalize opM t = r at *
  clear hS
  go_enter Tryz.func44, Tryz.ntmps44
  go_wp2
  go_loop [3] (fun v => ∃ k : Nat, 1 ≤ k ∧ k ≤ 30 ∧ v = .int .i64 k ∧ Hid (r = opF t (30 - k) k)) (fun v => 30 - (intOf v).toNat)
  case atStart => exact ⟨1, by omega, by omega, rfl, HO⟩
  case round =>
    obtain ⟨k, h1, h2, rfl, HR⟩ := hrel
    by_cases hlt : k ≤ 29
    · have s1 := (HS.out.1 k (by omega)).1
      have HST := Lib.hid (opF_step t k hlt)
      have hk0 : (0 : Int) ≤ (k : Int) := by omega
      have hk1 : (k : Int) < 30 := by omega
      have he := str_eqC (a := opW.getD k []) (b := t)
      generalize opW.getD k [] = u at *
      by_cases hu : u = t
      · have hb : ((bs u).toList == (bs t).toList) = true := by rw [he]; exact decide_eq_true hu
        have HK := Lib.hid (HR.out.trans (HST.out.trans (if_pos hu)))
        clear he hu
        go_wp2
        go_ret
        exact ⟨ret_nat HK.out.symm, rfl⟩
      · have hb : ((bs u).toList == (bs t).toList) = false := by rw [he]; exact decide_eq_false hu
        have HK := Lib.hid (HR.out.trans (HST.out.trans (if_neg hu)))
        clear he hu
        go_wp2
        go_round
        case rel => exact ⟨k + 1, by omega, by omega, by go_num, HK⟩
        case measure => simp [intOf]; omega
    · obtain rfl : k = 30 := by omega
      go_wp2
      go_ret
      exact ⟨ret_nat (HR.out.symm : 0 = r), rfl⟩

end Go.Proofs.YthkpnbekkoompabGreatDoor
