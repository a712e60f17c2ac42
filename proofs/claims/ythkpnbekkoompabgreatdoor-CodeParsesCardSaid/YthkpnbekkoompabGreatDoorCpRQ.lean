/-
  code: an instruction's line.
-/
import Derived.Test.YthkpnbekkoompabGreatDoorCpPQ
import Derived.Deep.Cut
namespace Go.Proofs.YthkpnbekkoompabGreatDoor
open Go.RowKit

theorem alloc3d (w : World) (a b c : Array Value) (s t u : TypeId) : ((((w.alloc (.cells a s)).alloc (.cells b t)).alloc (.cells c u)).drew).heap[w.heap.size + 1]? = some (.cells b t (0, 0)) ∧ ((((w.alloc (.cells a s)).alloc (.cells b t)).alloc (.cells c u)).drew).heap[w.heap.size + 1 + 1]? = some (.cells c u (0, 0)) ∧
    Below w.heap.size w ((((w.alloc (.cells a s)).alloc (.cells b t)).alloc (.cells c u)).drew) := by
  obtain ⟨h1, h2, h3, _⟩ := alloc3 w a b c s t u
  exact ⟨h1, h2, ⟨h3.os, h3.tape, h3.output, h3.size, h3.block⟩⟩
theorem newC2 {w : World} {g o : Nat} {u : Value} (h : w.cell? ⟨g, o, none⟩ = some u) (b : Obj) : (w.alloc b).drew.cell? ⟨g, o, none⟩ = some u := newC h b

set_option maxRecDepth 100000 in
set_option maxHeartbeats 4000000 in
theorem instrLine_calls (p : PrM) (np : Nat) (x : InM) (w : World) (hX : TX w) (hok : inOk p np x) (hf : x.fit) :
    Calls Tryz.prog 18 #[inV x] w fun e w' => e = .returned (.string (bs (lineM (partsI x)))) ∧ Below w.heap.size w w' := by
  have ho := opW_facts hok.1.1 hok.1.2
  have hlen : (lineM (partsI x)).length ≤ 1000000 := by
    have h1 := line_len (partsI x) 21 (fun a ha => by
      rcases List.mem_cons.1 ha with rfl | ha
      · omega
      · have := List.mem_of_mem_take ha
        simp only [List.mem_cons, List.not_mem_nil, or_false] at this
        rcases this with rfl | rfl
        · exact itoa_len hf.2.1
        · exact itoa_len hf.2.2)
    have h2 : (partsI x).length ≤ 3 := by
      have := many_le x.op.toNat
      simp [partsI]; omega
    have : (21 + 1) * (partsI x).length ≤ 66 := by omega
    omega
  obtain ⟨k, hk⟩ : ∃ k : Nat, x.op = (k : Int) := ⟨x.op.toNat, by have := hok.1; omega⟩
  have hk29 : 1 ≤ k ∧ k < 30 := by have := hok.1; omega
  have e3 : x.op.toNat = k := by omega
  obtain ⟨ns, hns⟩ : ∃ ns : List Int, ns = [x.arg, x.mor].take (manyM k) := ⟨_, rfl⟩
  have hnl : ns.length = manyM k := by have := many_le k; rw [hns]; simp; omega
  have hn2 : ns.length ≤ 2 := by rw [hnl]; exact many_le k
  have hpI : partsI x = [opW.getD k []] ++ ns.map Lib.itoa := by unfold partsI; rw [e3, hns, List.map_take]; rfl
  have hnf : ∀ n ∈ ns, i64 n := by
    intro n hn
    rw [hns] at hn
    have := List.mem_of_mem_take hn
    simp at this
    rcases this with rfl | rfl
    · exact hf.2.1
    · exact hf.2.2
  rw [hpI] at hlen ⊢
  obtain ⟨a1, a2, a3⟩ := alloc3d w #[.int .i64 (k : Int), .int .i64 x.arg, .int .i64 x.mor] #[.int .i64 x.arg, .int .i64 x.mor] #[.string (bs (opW.getD k []))] 42 3 9
  have b1 := own_block (m := ns.length) a1 (base := w.heap.size) (by omega) rfl (by show _ ≤ 2; exact hn2) (by show 2 ≤ maxLen; unfold maxLen; omega)
  have eN : ((#[.int .i64 x.arg, .int .i64 x.mor] : Array Value).toList.take ns.length) = intsL ns := by
    rw [hnl]
    rw [hns]; simp [intsL, List.map_take]
  rw [eN] at b1
  have HL := Lib.hid (lineOf_calls (w.heap.size) w (some ⟨w.heap.size + 1 + 1, 0, none⟩) (some ⟨w.heap.size + 1, 0, none⟩) 1 2 [opW.getD k []] ns _ hX (Nat.le_refl _) a3 a3.size (by simp) (by simp) (by omega)
    (own_block a2 (by omega) rfl (by simp) (by decide)) b1 hnf hlen)
  have HB := Lib.hid a3
  rw [show ([opW.getD k []] : List (List UInt8)).length = 1 from rfl] at HL
  have hS := hX.ts.shp
  have s1 := (hS.1 k hk29.2).1
  have HMY := Lib.hid (fun W (hW : Shp W) => many_calls k hk29.2 W hW)
  rw [← hnl] at HMY
  generalize lineM ([opW.getD k []] ++ ns.map Lib.itoa) = L at *
  generalize ns.length = m at *
  generalize opW.getD k [] = u at *
  unfold inV
  rw [hk]
  generalize x.arg = xa at *
  generalize x.mor = xm at *
  have s1 := newC (newC s1 (.cells #[.int .i64 (k : Int), .int .i64 xa, .int .i64 xm] 42)) (.cells #[.int .i64 xa, .int .i64 xm] 3)
  have hSW : Shp ((w.alloc (.cells #[.int .i64 (k : Int), .int .i64 xa, .int .i64 xm] 42)).alloc (.cells #[.int .i64 xa, .int .i64 xm] 3)) := hS.below (((Below.refl w.heap.size w).alloc (Nat.le_refl _) _).alloc (by simp) _)
  have x0 : ((w.alloc (.cells #[.int .i64 (k : Int), .int .i64 xa, .int .i64 xm] 42)).alloc (.cells #[.int .i64 xa, .int .i64 xm] 3)).cell? ⟨w.heap.size, 0, none⟩ = some (.int .i64 (k : Int)) := newC (cellC (heapOne w _ _) 0) _
  have hk0 : (0 : Int) ≤ (k : Int) := by omega
  have hk1 : (k : Int) < 30 := by omega
  have hm0 : (0 : Int) ≤ (m : Int) := by omega
  have hm2 : (m : Int) ≤ 2 := by omega
  clear a1 a2 a3 b1 eN hX hok hf hlen ho hns hnl hn2 hpI hnf hk e3 hS
  go_enter Tryz.func18, Tryz.ntmps18
  go_upto_region 2 with (fail)
  have HZ : Hid (((w.alloc (.cells #[.int .i64 (k : Int), .int .i64 xa, .int .i64 xm] 42)).alloc (.cells #[.int .i64 xa, .int .i64 xm] 3)).heap.size = w.heap.size + 1 + 1) := Lib.hid (by simp)
  generalize (w.alloc (.cells #[.int .i64 (k : Int), .int .i64 xa, .int .i64 xm] 42)).alloc (.cells #[.int .i64 xa, .int .i64 xm] 3) = W1 at *
  have x0d := fun o => newC2 x0 o
  have s1d := fun o => newC2 s1 o
  have HS0 : Hid (Shp W1.drew) := Lib.hid (hSW.drewN 1)
  have HS1 : Hid (∀ o, Shp (W1.alloc o).drew) := Lib.hid fun o => (hSW.below ((Below.refl _ _).alloc (Nat.le_refl _) o)).drewN 1
  clear hSW
  rw [← HZ.out] at HL
  have x0e : W1.drew.cell? ⟨w.heap.size, 0, none⟩ = some (.int .i64 (k : Int)) := x0
  have s1e : W1.drew.cell? ⟨0, k * 4, none⟩ = some (.string (bs u)) := s1
  clear x0 s1
  go_region_with (first | (go_at_call 35; ((first | (with_reducible refine (HMY.out _ HS0.out).mono ?_) | (with_reducible refine (HMY.out _ (HS1.out _)).mono ?_)); rintro e w' ⟨rfl, rfl⟩)) | (go_at_call 34; (refine HL.out.mono ?_; rintro e w1 ⟨rfl, hB1⟩; have HB1 := Lib.hid (HB.out.trans hB1); clear hB1)))
  all_goals
    go_wp2
    go_ret
    exact ⟨rfl, HB1.out⟩
end Go.Proofs.YthkpnbekkoompabGreatDoor
