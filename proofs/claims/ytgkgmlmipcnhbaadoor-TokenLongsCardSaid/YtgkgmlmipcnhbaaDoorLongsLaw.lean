/-
  The statement TokenLongs, gone through.
-/
import Derived.Test.YtgkgmlmipcnhbaaDoorGoesLaw
import Derived.Laws.MakeOwn
import Derived.Lib.SlBytesRow
namespace Go.Proofs.YtgkgmlmipcnhbaaDoor
open Go.RowKit

theorem Tryd.infoU8 : (Tryd.prog.info? 5).map (fun i => (i.zero, i.size, i.bytes)) = some (some (.int .u8 0), 1, 1) := by kernel_rfl
theorem make8 (n : Nat) (hn : n ≤ 100000) : ∃ M : Array Value, M.size = n ∧ ∀ W : World, (Instr.makeSlice 45 (.int .i64 (n : Int)) (.int .i64 (n : Int))).run Tryd.prog W = .ok (.slice (some ⟨W.heap.size, 0, none⟩) n n) (W.alloc (.cells M 5)) := by
  obtain ⟨i0, hi, hz0, hz1, hz2⟩ := info_parts Tryd.infoU8
  refine ⟨madeCells (Value.int .u8 0).cells (((n : Nat) : Int).toNat * i0.size), by rw [size_madeCells, hz1]; simp, fun W => ?_⟩
  have h := run_make (P := Tryd.prog) W 45 5 i0 (.int .u8 0) Tryd.underlying45 hi hz0 .i64 .i64 (n : Int) (n : Int) (by omega) (by omega) (by rw [hz2]; omega) (by omega)
  simpa using h
theorem row_cell {w : World} {R : Array Value} {t : TypeId} {k : Nat} {v : Value} (h : R[k]? = some v) : (w.alloc (.cells R t)).cell? ⟨w.heap.size, k, none⟩ = some v := by
  have := heap_alloc_new w (.cells R t)
  simp only [World.cell?, this, h]
  simp
theorem row_frozen {w : World} {R : Array Value} {t : TypeId} {k : Nat} : (w.alloc (.cells R t)).frozen? ⟨w.heap.size, k, none⟩ = false := by
  have := heap_alloc_new w (.cells R t)
  simp only [World.frozen?, this]
  simp
def BlankTo (m k : Nat) (R : Array Value) : Prop := R.size = m ∧ ∀ j, j < m → j < k → R[j]? = some (.int .u8 32)
theorem blankTo_step {m k : Nat} {R : Array Value} (h : BlankTo m k R) (hk : k < m) : BlankTo m (k + 1) (R.setIfInBounds k (.int .u8 32)) := by
  refine ⟨by simpa using h.1, fun j hj hjk => ?_⟩
  by_cases e : j = k
  · subst e; simp [h.1, hj]
  · rw [Array.getElem?_setIfInBounds_ne (Ne.symm e)]; exact h.2 j hj (by omega)
/-- So many blanks. -/
def sps (m : Nat) : ByteArray := bs (List.replicate m 32)
theorem sps_size (m : Nat) : (sps m).size = m := by unfold sps; rw [bs_size, List.length_replicate]
theorem sps_toks (m : Nat) : toks (sps m).data.toList 0 = ([⟨0, m, m⟩], none) := by
  unfold sps
  rw [bs_toList]
  have h := toks_blanks (List.replicate m 32) [] (fun c hc => by rw [(List.mem_replicate.1 hc).2]; decide)
  rw [List.append_nil, List.length_replicate] at h
  rw [h]
  have e : toks [] 0 = ([⟨0, 0, 0⟩], none) := by decide
  rw [e]
  rfl
theorem sps_conv (w : World) (m : Nat) (R : Array Value) (h : BlankTo m m R) : Sem.run Tryd.prog (convert 45 9 (.slice (some ⟨w.heap.size, 0, none⟩) m m)) (w.alloc (.cells R 5)) = .ok (.string (sps m)) (w.alloc (.cells R 5)) := by
  have hb : Lib.Bytes (w.alloc (.cells R 5)) w.heap.size 0 (sps m) := by
    intro i hi
    rw [sps_size] at hi
    have e : (sps m)[i]'(by rw [sps_size]; exact hi) = 32 := by
      show (List.replicate m (32 : UInt8)).toArray[i]'(by simpa using hi) = 32
      simp
    rw [e, Nat.zero_add]
    exact row_cell (h.2 i hi hi)
  have := Lib.run_convert_whole (P := Tryd.prog) _ 45 5 9 Tryd.underlying45 Tryd.underlying5 Tryd.underlying9 w.heap.size 0 (sps m) hb m
  rwa [sps_size] at this

set_option maxHeartbeats 400000 in
theorem all_long (s : ByteArray) (hs : 20000 < s.size) (w : World) : Calls Tryd.prog 13 #[.string s] w fun e w' => e = .returned (.tuple #[.slice none 0 0, .int .i64 0, .int .i64 1]) ∧ w = w' := by
  have hd : (20000 : Int) < (s.size : Int) := by omega
  go_enter Tryd.func13, Tryd.ntmps13
  go_wp2
  go_ret3
  exact ⟨rfl, rfl⟩

set_option maxRecDepth 100000 in
set_option maxHeartbeats 2000000 in
/-- TokenLongs answers true, and leaves what there was. -/
theorem longs_walk (a0 : Int) (w0 : (Lit.int .u8 a0).wf = true) (w : World) (hT : Tabs w) :
    Calls Tryd.prog 7 #[.int .u8 a0] w fun e w' => e = .returned (.bool true) ∧ Below w.heap.size w w' := by
  obtain ⟨hu0, hu1⟩ := wf_u8 w0
  clear w0
  obtain ⟨n, rfl⟩ := Int.eq_ofNat_of_zero_le hu0
  have HT := Lib.hid hT
  clear hT
  have hr : n % 20 < 20 := Nat.mod_lt _ (by omega)
  have er1 : ((n : Int) % 20) = ((n % 20 : Nat) : Int) := by simp
  generalize n % 20 = r at hr er1
  obtain ⟨M, hM, hmk⟩ := make8 (19990 + r) (by omega)
  have HM := Lib.hid hM
  have HMK := Lib.hid hmk
  clear hM hmk
  go_enter Tryd.func7, Tryd.ntmps7
  go_wp2_with fail
  refine (awake_calls _ HT.out).mono ?_
  rintro e w1 ⟨rfl, hB1⟩
  have HT1 := Lib.hid (HT.out.below hB1 HT.out.2.2)
  have hmk := HMK.out w1
  rw [show ((19990 + r : Nat) : Int) = 19990 + (r : Int) from by omega] at hmk
  go_wp2
  clear hmk
  go_loopw [17] (fun c wr => ∃ (k : Nat) (R : Array Value), k ≤ 19990 + r ∧ c = .int .i64 k ∧ BlankTo (19990 + r) k R ∧ wr = w1.alloc (.cells R 5)) (fun c _ => 19990 + r - (intOf c).toNat)
  case atStart => exact ⟨0, M, Nat.zero_le _, rfl, ⟨HM.out, fun j _ h => absurd h (by omega)⟩, rfl⟩
  case round =>
    obtain ⟨k, R, hk, rfl, hR, rfl⟩ := hrel
    by_cases hlt : k < 19990 + r
    · obtain ⟨v, hv⟩ : ∃ v, R[k]? = some v := ⟨_, Array.getElem?_eq_getElem (by rw [hR.1]; exact hlt)⟩
      have hc : (w1.alloc (.cells R 5)).cell? ⟨w1.heap.size, k, none⟩ = some v := row_cell hv
      have hf : (w1.alloc (.cells R 5)).frozen? ⟨w1.heap.size, k, none⟩ = false := row_frozen
      have HR := Lib.hid hR
      have hRs := hR.1
      have hi1 : (k : Int) < 19990 + (r : Int) := by omega
      have hi0 : (0 : Int) ≤ (k : Int) := by omega
      clear hR hv
      go_wp2
      go_roundw
      case rel => exact ⟨k + 1, _, by omega, by go_num, blankTo_step HR.out hlt, rfl⟩
      case measure => simp [intOf]; omega
    · obtain rfl : k = 19990 + r := by omega
      have hcv := sps_conv w1 (19990 + r) R hR
      have hsz := sps_size (19990 + r)
      have hB2 := hB1.alloc hB1.size (.cells R 5)
      have HT2 := Lib.hid (HT.out.below hB2 HT.out.2.2)
      have hd1 : decide (((19990 + r : Nat) : Int) < 19990 + (r : Int)) = false := by simp
      by_cases hlong : 20000 < 19990 + r
      · have hl1 : (20000 : Int) < 19990 + (r : Int) := by omega
        have HA := Lib.hid (fun W => all_long (sps (19990 + r)) (by omega) W)
        clear hR hsz HT1 HM HMK
        go_wp2_with fail
        refine (HA.out _).mono ?_
        rintro e w3 ⟨rfl, rfl⟩
        go_wp2
        go_ret
        exact ⟨rfl, hB2⟩
      · have hl1 : decide ((20000 : Int) < 19990 + (r : Int)) = false := by simp; omega
        have HA := Lib.hid (fun W hW => all_calls (sps (19990 + r)) (by omega) W hW)
        have HS := Lib.hid (sps_toks (19990 + r))
        clear hR hsz HT1 HM HMK
        go_wp2_with fail
        refine (HA.out _ HT2.out).mono ?_
        rintro e w3 ⟨hB3, h3⟩
        rw [HS.out] at h3
        have hB4 := hB2.trans (hB3.mono hB2.size)
        rcases h3 with ⟨p, hp, _⟩ | ⟨_, A, c, rfl, ht⟩
        · cases hp
        · obtain ⟨b, off, rfl, hbl, hc⟩ := ht.2 (by simp)
          obtain ⟨c0, c1, c2⟩ := hc 0 (by simp)
          rw [Nat.zero_mul, Nat.add_zero] at c0 c1 c2
          clear hc ht hB3 hcv
          go_wp2
          go_ret
          exact ⟨rfl, hB4⟩
end Go.Proofs.YtgkgmlmipcnhbaaDoor
