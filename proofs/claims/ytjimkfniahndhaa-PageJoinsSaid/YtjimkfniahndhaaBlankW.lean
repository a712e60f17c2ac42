/-
  page.Blank, walked: a text, blanked but for some spans, or that one of them is none.
-/
import Derived.Test.YtjimkfniahndhaaBlank
namespace Go.Proofs.Ytjimkfniahndhaa
open Go.RowKit

theorem only_drewN' {a w : World} {row : Option Nat} (h : a.grownBy w row) (n : Nat) : a.grownBy (w.drewN n) row := ⟨h.os, h.tape, h.output, h.size, h.block⟩
theorem only_alloc' {a w : World} {row : Option Nat} (h : a.grownBy w row) (o : Obj) : a.grownBy (w.alloc o) row :=
  ⟨h.os, h.tape, h.output, Nat.le_trans h.size (by simp), fun i hi hne => (Below.heap_alloc w o i (Nat.lt_of_lt_of_le hi h.size)).trans (h.block i hi hne)⟩
theorem only_setRow' {a w : World} {g : Nat} (h : a.grownBy w (some g)) (cs : Array Value) : a.grownBy (w.setRow g cs) (some g) :=
  ⟨h.os, h.tape, h.output, by simpa using h.size, fun i hi hne => (setRow_other w g i cs (fun e => hne (by rw [e]))).trans (h.block i hi hne)⟩

theorem SpAt.far {w w' : World} {g : Nat} {A : Option Addr} {n : Nat} {xs : List Sp} (h : SpAt w w.heap.size A n xs) (hg : w.grownBy w' (some g)) (hne : ∀ a : Addr, A = some a → a.block ≠ g) : SpAt w' w.heap.size A n xs :=
  ⟨h.1, fun hn => by
    obtain ⟨b, off, rfl, hlt, hc⟩ := h.2 hn
    have hb := hg.block b hlt (fun e => hne _ rfl (by simpa using e))
    exact ⟨b, off, rfl, hlt, fun i hi => ⟨(World.cell?_of_block (a := ⟨b, off + i * 2, none⟩) hb).trans (hc i hi).1, (World.cell?_of_block (a := ⟨b, off + i * 2 + 1, none⟩) hb).trans (hc i hi).2⟩⟩⟩

def BlankPost (s : ByteArray) (xs : List Sp) (w : World) (e : Ending) (w' : World) : Prop :=
  e = .returned (.tuple #[.string (blankS s xs), .int .i64 0]) ∧ Below w.heap.size w w'

set_option maxRecDepth 100000 in
set_option maxHeartbeats 1000000 in
theorem blank_yes (s : ByteArray) (hs : s.size ≤ 1000) (A : Option Addr) (n c : Nat) (xs : List Sp) (hn : n ≤ 1000) (hgood : ∀ x ∈ xs, goodB x s.size = true) (w : World) (hx : SpAt w w.heap.size A n xs) :
    Calls Try.prog 17 #[.string s, .slice A n c] w (BlankPost s xs w) := by
  have HX := Lib.hid hx
  have HG := Lib.hid hgood
  have HL := Lib.hid hx.1
  clear hx hgood
  go_enter Try.func17, Try.ntmps17
  go_wp2
  go_loopw [13] (fun i wr => ∃ (k : Nat), k ≤ n ∧ i = .int .i64 k ∧ Below w.heap.size w wr) (fun i _ => n - (intOf i).toNat)
  case atStart => exact ⟨0, Nat.zero_le _, rfl, Below.refl _ _⟩
  case round =>
    obtain ⟨k, hk, rfl, hB⟩ := hrel
    have hbs := hB.size
    by_cases hlt : k < n
    · have hkl : k < xs.length := by rw [HL.out]; exact hlt
      obtain ⟨b, off, hA, hbl, hcs⟩ := (HX.out.below hB (Nat.le_refl _)).2 (by omega)
      subst hA
      obtain ⟨hc1, hc2⟩ := hcs k hkl
      clear hcs
      have hgk := HG.out xs[k] (List.getElem_mem hkl)
      generalize hgx : xs[k] = x at hc1 hc2 hgk
      clear hgx
      obtain ⟨x1, x2⟩ := x
      dsimp only at hc1 hc2
      have hcall := Lib.hid (fun W => good_calls (x1, x2) s.size W)
      rw [hgk] at hcall
      clear hgk
      go_wp2_with (go_at_call 18; refine (hcall.out _).mono ?_; rintro e w2 ⟨rfl, rfl⟩)
      go_roundw
      case rel => exact ⟨k + 1, by omega, by go_num, (hB.alloc hbs _).alloc (by simp; omega) _⟩
      case measure => simp [intOf]; omega
    · obtain rfl : k = n := by omega
      have hbl := Lib.hid (fun W => blanks_calls s hs W)
      go_wp2_with fail
      refine (hbl.out _).mono ?_
      rintro e w1 ⟨rfl, R, hR, rfl⟩
      have hB1 := hB.alloc hbs (.cells R 5)
      have hcv := Lib.hid (cover_calls A k c xs hn (wr.alloc (.cells R 5)) ((HX.out.below hB1 (Nat.le_refl _)).mono (by simp; omega)))
      have hR0 := Lib.hid (rowIs_start hR)
      clear hR hbl
      go_wp2_with fail
      refine hcv.out.mono ?_
      rintro e w3 ⟨A3, c3, zs, rfl, hz, hperm, hsort, hB3, hfar⟩
      clear hcv
      have hg3 : w3.heap[wr.heap.size]? = some (.cells R 5 (0, 0)) := (hB3.block wr.heap.size (by simp)).trans (heap_alloc_new wr _)
      have hBw : Below w.heap.size w w3 := hB1.trans (hB3.mono (by simp; omega))
      have hgd := Lib.hid (cov_good xs zs s.size hperm hsort (fun x hx => by have := HG.out x hx; simpa [goodB] using this))
      have hsame := Lib.hid (cov_same xs zs hperm hsort)
      have hzl : (covL zs).length ≤ 1000 := by
        have h1 := covL_le zs
        have h2 := hperm.length_eq
        have h3 := List.length_filter_le fullB xs
        have h4 := HL.out
        omega
      have HZ := Lib.hid hz
      have HFar := Lib.hid (show ∀ a : Addr, A3 = some a → a.block ≠ wr.heap.size from fun a e => by have := hfar a e; simp at this; omega)
      have hgsz : wr.heap.size < w3.heap.size := by have := hB3.size; simp at this; omega
      clear hz hperm hsort hfar hB3 hB1
      generalize covL zs = ys at *
      have hgw : w.heap.size ≤ wr.heap.size := hbs
      generalize wr.heap.size = g at *
      clear hB
      go_wp2
      go_loopw [28] (fun i wr => ∃ (q : Nat) (R : Array Value), q ≤ ys.length ∧ i = .int .i64 q ∧ wr.heap[g]? = some (.cells R 5 (0, 0)) ∧ RowIs s (ys.take q) R ∧ w3.grownBy wr (some g)) (fun i _ => ys.length - (intOf i).toNat)
      case atStart => exact ⟨0, R, Nat.zero_le _, rfl, hg3, hR0.out, World.grownBy.refl _ _⟩
      case round =>
        clear hg3 hR0
        obtain ⟨q, R, hq, rfl, hg, hR, hgr⟩ := hrel
        have hgs := hgr.size
        by_cases hlt : q < ys.length
        · obtain ⟨b0, off, hA, hbl, hcs⟩ := (HZ.out.far hgr HFar.out).2 (by omega)
          subst hA
          obtain ⟨hc1, hc2⟩ := hcs q hlt
          clear hcs
          have hgq := hgd.out ys[q] (List.getElem_mem hlt)
          have HT := Lib.hid (List.take_succ_eq_append_getElem hlt)
          generalize hgx : ys[q] = x at hc1 hc2 hgq HT
          clear hgx
          obtain ⟨x1, x2⟩ := x
          dsimp only at hc1 hc2 hgq
          obtain ⟨a, rfl⟩ := Int.eq_ofNat_of_zero_le hgq.1
          obtain ⟨b, rfl⟩ := Int.eq_ofNat_of_zero_le (show 0 ≤ x2 by omega)
          have hab : a < b := by omega
          have hbz : b ≤ s.size := by omega
          clear hgq
          have hRs := rowIs_size hR
          have hga : (wr.alloc (.cells #[.int .i64 a, .int .i64 b] 41)).heap[g]? = some (.cells R 5 (0, 0)) := (Below.heap_alloc _ (.cells #[.int .i64 a, .int .i64 b] 41) g (by omega)).trans hg
          have hex : (s.extract a b).size = b - a := by simp; omega
          have hcp : (Builtin.copy_ #[49, 9] 3 #[.slice (some ⟨g, a, none⟩) (b - a) (s.size - a), .string (s.extract a b)]).run Try.prog (wr.alloc (.cells #[.int .i64 a, .int .i64 b] 41)).drew = .ok (goInt (s.extract a b).size) ((wr.alloc (.cells #[.int .i64 a, .int .i64 b] 41)).drew.setRow g (R.toList.take a ++ Lib.byteCells (s.extract a b).data.toList ++ R.toList.drop (a + (s.extract a b).size)).toArray) :=
            Lib.run_copy_row_string (P := Try.prog) _ 49 9 3 5 g a (b - a) (s.size - a) (s.extract a b) R 5 Try.underlying49 (by kernel_rfl) hga (by rw [hex]; exact Nat.le_refl _) (by rw [hex, hRs]; omega)
          have HRS := Lib.hid (rowIs_step hR a b (by omega) hbz)
          rw [hex] at hcp HRS
          obtain ⟨R', hR'⟩ : ∃ R', (R.toList.take a ++ Lib.byteCells (s.extract a b).data.toList ++ R.toList.drop (a + (b - a))).toArray = R' := ⟨_, rfl⟩
          rw [hR'] at hcp HRS
          have HG2 := Lib.hid (setRow_heap (wr.alloc (.cells #[.int .i64 a, .int .i64 b] 41)).drew g R R' 5 (0, 0) hga)
          clear hR' hex hga hR hRs hg
          go_wp2_with fail
          go_region
          have hgr3 : w3.grownBy ((wr.alloc (.cells #[.int .i64 a, .int .i64 b] 41)).drew.setRow g R') (some g) := only_setRow' (only_drewN' (only_alloc' hgr _) 1) R'
          clear hcp
          go_wp2
          go_roundw
          case rel => exact ⟨q + 1, R', by omega, by go_num, HG2.out, by rw [HT.out]; exact HRS.out, hgr3⟩
          case measure => simp [intOf]; omega
        · obtain rfl : q = ys.length := by omega
          have hT : ys.take ys.length = ys := List.take_of_length_le (Nat.le_refl _)
          rw [hT] at hR
          have hconv := Lib.run_convert_whole (P := Try.prog) wr 49 5 9 Try.underlying49 Try.underlying5 Try.underlying9 g 0 (blankS s ys) (rowIs_bytes hR hg) s.size
          rw [blankS_size] at hconv
          have HE := Lib.hid (show blankS s ys = blankS s xs by unfold blankS; rw [blankL_congr _ _ _ hsame.out])
          have hBf : Below w.heap.size w wr := ⟨hgr.os.trans hBw.os, hgr.tape.trans hBw.tape, hgr.output.trans hBw.output, Nat.le_trans hBw.size hgr.size, fun i hi => (hgr.block i (Nat.lt_of_lt_of_le hi hBw.size) (fun e => by simp at e; omega)).trans (hBw.block i hi)⟩
          clear hT hR hg
          generalize blankS s ys = out at hconv HE
          go_wp2
          go_ret2
          exact ⟨by rw [← HE.out]; rfl, hBf⟩

set_option maxRecDepth 100000 in
set_option maxHeartbeats 1000000 in
theorem blank_no (s : ByteArray) (A : Option Addr) (n c : Nat) (xs : List Sp) (hn : n ≤ 1000) (hbad : ¬ ∀ x ∈ xs, goodB x s.size = true) (w : World) (hx : SpAt w w.heap.size A n xs) :
    Calls Try.prog 17 #[.string s, .slice A n c] w fun e w' => e = .returned (.tuple #[.string ⟨#[]⟩, .int .i64 15]) ∧ Below w.heap.size w w' := by
  have HX := Lib.hid hx
  have HG := Lib.hid hbad
  have HL := Lib.hid hx.1
  clear hx hbad
  go_enter Try.func17, Try.ntmps17
  go_wp2
  go_loopw [13] (fun i wr => ∃ (k : Nat), k ≤ n ∧ i = .int .i64 k ∧ (∀ j (h : j < xs.length), j < k → goodB xs[j] s.size = true) ∧ Below w.heap.size w wr) (fun i _ => n - (intOf i).toNat)
  case atStart => exact ⟨0, Nat.zero_le _, rfl, fun j _ h => absurd h (by omega), Below.refl _ _⟩
  case round =>
    obtain ⟨k, hk, rfl, hall, hB⟩ := hrel
    have HA := Lib.hid hall
    clear hall
    have hbs := hB.size
    by_cases hlt : k < n
    · have hkl : k < xs.length := by rw [HL.out]; exact hlt
      obtain ⟨b, off, hA, hbl, hcs⟩ := (HX.out.below hB (Nat.le_refl _)).2 (by omega)
      subst hA
      obtain ⟨hc1, hc2⟩ := hcs k hkl
      clear hcs
      have hcall := Lib.hid (fun W => good_calls xs[k] s.size W)
      by_cases hgk : goodB xs[k] s.size = true
      · have HS := Lib.hid (show ∀ j (h : j < xs.length), j < k + 1 → goodB xs[j] s.size = true from fun j h hj => by
          rcases Nat.lt_or_ge j k with h1 | h1
          · exact HA.out j h h1
          · obtain rfl : j = k := by omega
            exact hgk)
        rw [hgk] at hcall
        clear hgk
        generalize hgx : xs[k] = x at hc1 hc2 hcall
        clear hgx
        obtain ⟨x1, x2⟩ := x
        dsimp only at hc1 hc2
        go_wp2_with (go_at_call 18; refine (hcall.out _).mono ?_; rintro e w2 ⟨rfl, rfl⟩)
        go_roundw
        case rel => exact ⟨k + 1, by omega, by go_num, HS.out, (hB.alloc hbs _).alloc (by simp; omega) _⟩
        case measure => simp [intOf]; omega
      · have hgf : goodB xs[k] s.size = false := by simpa using hgk
        rw [hgf] at hcall
        clear hgk hgf
        generalize hgx : xs[k] = x at hc1 hc2 hcall
        clear hgx
        obtain ⟨x1, x2⟩ := x
        dsimp only at hc1 hc2
        go_wp2_with (go_at_call 18; refine (hcall.out _).mono ?_; rintro e w2 ⟨rfl, rfl⟩)
        go_ret2
        exact ⟨rfl, (hB.alloc hbs _).alloc (by simp; omega) _⟩
    · exfalso
      apply HG.out
      intro x hx
      obtain ⟨j, hj, rfl⟩ := List.getElem_of_mem hx
      exact HA.out j hj (by have := HL.out; omega)

end Go.Proofs.Ytjimkfniahndhaa
