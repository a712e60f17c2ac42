/-
  The statement OrderParses, walked.
-/
import Derived.Test.YtdknejmhlfpdfaaGreatDoorOrL
namespace Go.Proofs.YtdknejmhlfpdfaaGreatDoor
open Go.RowKit

theorem box3 {w w' : World} {g B : Nat} {a b c : Value} {t : TypeId} (hb : Below B w w') (hg : g < B) (h : w.heap[g]? = some (.cells #[a, b, c] t (0, 0))) : w'.heap[g]? = some (.cells #[a, b, c] t (0, 0)) := (hb.block _ hg).trans h
theorem box3c {w : World} {g : Nat} {a b c : Value} {t : TypeId} (h : w.heap[g]? = some (.cells #[a, b, c] t (0, 0))) : w.cell? ⟨g, 0, none⟩ = some a ∧ w.cell? ⟨g, 1, none⟩ = some b ∧ w.cell? ⟨g, 2, none⟩ = some c := ⟨cellC h 0, cellC h 1, cellC h 2⟩
theorem str_self (b : ByteArray) : (b.toList == b.toList) = true := beq_self_eq_true _
set_option maxRecDepth 100000 in
set_option maxHeartbeats 4000000 in
theorem orderParses_law {X : World → Prop} (HP : PaC X) (HG : GoC X) (HT : TeC X) (HK : KeC X) (a : ByteArray) (w : World) (hX : X w) :
    Calls Tryz.prog 3 #[.string a] w fun e w' => e = .returned (.bool true) ∧ Below w.heap.size w w' := by
  have hK := Lib.hid (fun W (hb : Below w.heap.size w W) => HK w W _ hX hb (Nat.le_refl _))
  have HAW := Lib.hid (fun W (hb : Below w.heap.size w W) => ordAwake_calls HP W (hK.out W hb))
  obtain ⟨t, rfl⟩ : ∃ t, a = bs t := ⟨a.data.toList, by apply WideShapes.bytes_inj; rw [bs_toList]⟩
  have hsz : (bs t).size = t.length := bs_size t
  by_cases hl : 400 < t.length
  · have d1 : decide ((400 : Int) < (t.length : Int)) = true := decide_eq_true (by omega)
    generalize bs t = S at *
    go_enter Tryz.func3, Tryz.ntmps3
    go_wp2_with fail
    refine (HAW.out _ (Below.refl _ _)).mono ?_
    rintro e w1 ⟨rfl, hB1⟩
    have HB1 := Lib.hid hB1
    clear hB1
    go_wp2_with fail
    refine (HAW.out _ HB1.out).mono ?_
    rintro e w2 ⟨rfl, hB2⟩
    have HB2 := Lib.hid (HB1.out.trans (hB2.mono HB1.out.size))
    clear hB2
    go_wp2
    go_ret
    exact ⟨rfl, HB2.out⟩
  · have d1 : decide ((400 : Int) < (t.length : Int)) = false := decide_eq_false (by omega)
    have HPC := Lib.hid (fun W (hb : Below w.heap.size w W) => HP t (by omega) W (hK.out W hb))
    have HRC := Lib.hid (fun W => ordParse_calls t (by omega) W)
    have HOG := Lib.hid (fun (h : (ordM t).2 = 0) => ord_good (t := t) (o := (ordM t).1) (by rw [← h]))
    generalize hS : bs t = S at *
    clear hS
    generalize ordM t = r at *
    obtain ⟨⟨kd, nm, nu⟩, cd⟩ := r
    unfold ordV at HPC
    unfold ansO at HRC
    dsimp only at HPC HRC HOG
    obtain ⟨N, hN⟩ : ∃ N, N = bs nm := ⟨_, rfl⟩
    rw [← hN] at HPC HRC
    have HN := Lib.hid hN
    have hself := str_self N
    clear hN
    go_enter Tryz.func3, Tryz.ntmps3
    go_wp2_with fail
    refine (HAW.out _ (Below.refl _ _)).mono ?_
    rintro e w1 ⟨rfl, hB1⟩
    have HB1 := Lib.hid hB1
    clear hB1
    go_wp2_with fail
    refine (HPC.out _ HB1.out).mono ?_
    rintro e w2 ⟨rfl, hB2⟩
    have HB2 := Lib.hid (HB1.out.trans (hB2.mono HB1.out.size))
    clear hB2
    have HX2 := Lib.hid (heapOne w2 #[.int .i64 kd, .string N, .int .i64 nu] 24)
    have HB2a := Lib.hid (HB2.out.alloc HB2.out.size (.cells #[.int .i64 kd, .string N, .int .i64 nu] 24))
    go_wp2_with fail
    generalize w2.alloc (.cells #[.int .i64 kd, .string N, .int .i64 nu] 24) = w3 at *
    generalize hg2 : w2.heap.size = g at *
    have hwg : w.heap.size ≤ g := by rw [← hg2]; exact HB2.out.size
    clear hg2
    refine (HRC.out _).mono ?_
    rintro e w4 ⟨rfl, hB4⟩
    have HB4 := Lib.hid (HB2a.out.trans (hB4.mono HB2a.out.size))
    have HX4 := Lib.hid (box3 hB4 (blkLt HX2.out) HX2.out)
    clear hB4
    obtain ⟨x0, x1, x2⟩ := box3c HX4.out
    by_cases hc : cd = 0
    · subst hc
      have hgo := HOG.out rfl
      have HGO := Lib.hid hgo
      have hkd : ∃ k : Nat, kd = (k : Int) ∧ k ≤ 20 := ⟨kd.toNat, by have := hgo.1; simp only at this; omega, by have := hgo.1; simp only at this; omega⟩
      obtain ⟨k, rfl, hk20⟩ := hkd
      have HTC := Lib.hid (fun W (hb : Below w.heap.size w W) => HT _ hgo.x W (hK.out W hb))
      have HGC := Lib.hid (fun W (hb : Below w.heap.size w W) => HG _ hgo.x W (hK.out W hb))
      have HTX := Lib.hid (ord_txt hgo)
      have HP2 := Lib.hid (fun W (hb : Below w.heap.size w W) => HP (txtO ⟨k, nm, nu⟩) (by have := HTX.out.2; omega) W (hK.out W hb))
      rw [HTX.out.1] at HP2
      have HRT := Lib.hid (fun W => ordText_calls k hk20 nm hgo.x.2.2 nu hgo.x.2.1 W)
      unfold ordV at HTC HGC HP2
      dsimp only at HTC HGC HP2
      rw [← HN.out] at HTC HGC HP2 HRT
      generalize htt : txtO ⟨k, nm, nu⟩ = T at *
      clear htt hgo HTX
      have hsT := str_self (bs T)
      go_wp2_with fail
      refine (HTC.out _ HB4.out).mono ?_
      rintro e w5 ⟨⟨s, rfl, hs, _⟩, hB5⟩
      obtain rfl := hs HGO.out
      have HB5 := Lib.hid (HB4.out.trans (hB5.mono HB4.out.size))
      have HX5 := Lib.hid (box3 hB5 (blkLt HX4.out) HX4.out)
      clear hB5 x0 x1 x2
      go_wp2_with fail
      refine (HP2.out _ HB5.out).mono ?_
      rintro e w6 ⟨rfl, hB6⟩
      have HB6 := Lib.hid (HB5.out.trans (hB6.mono HB5.out.size))
      have HX6 := Lib.hid (box3 hB6 (blkLt HX5.out) HX5.out)
      clear hB6
      have HY6 := Lib.hid (heapOne w6 #[.int .i64 k, .string N, .int .i64 nu] 24)
      have HBa := Lib.hid ((Below.refl w6.heap.size w6).alloc (Nat.le_refl _) (.cells #[.int .i64 k, .string N, .int .i64 nu] 24))
      have HX7 := Lib.hid (box3 HBa.out (blkLt HX6.out) HX6.out)
      have HB7 := Lib.hid (HB6.out.trans (HBa.out.mono HB6.out.size))
      obtain ⟨x0, x1, x2⟩ := box3c HX7.out
      clear HBa
      go_wp2_with fail
      generalize w6.alloc (.cells #[.int .i64 k, .string N, .int .i64 nu] 24) = w7 at *
      generalize w6.heap.size = g6 at *
      refine (HGC.out _ HB7.out).mono ?_
      rintro e w8 ⟨⟨b, rfl, hb⟩, hB8⟩
      obtain rfl := hb.2 HGO.out
      have HB8 := Lib.hid (HB7.out.trans (hB8.mono HB7.out.size))
      have HX8 := Lib.hid (box3 hB8 (blkLt HX7.out) HX7.out)
      have HY8 := Lib.hid (box3 hB8 (blkLt HY6.out) HY6.out)
      clear hB8 x0 x1 x2 hb
      obtain ⟨x0, x1, x2⟩ := box3c HX8.out
      go_wp2_with fail
      refine (HTC.out _ HB8.out).mono ?_
      rintro e w9 ⟨⟨s, rfl, hs, _⟩, hB9⟩
      obtain rfl := hs HGO.out
      have HB9 := Lib.hid (HB8.out.trans (hB9.mono HB8.out.size))
      have HX9 := Lib.hid (box3 hB9 (blkLt HX8.out) HX8.out)
      have HY9 := Lib.hid (box3 hB9 (blkLt HY8.out) HY8.out)
      clear hB9 x0 x1 x2
      go_wp2_with fail
      refine (HRT.out _).mono ?_
      rintro e w10 ⟨rfl, hB10⟩
      have HB10 := Lib.hid (HB9.out.trans (hB10.mono HB9.out.size))
      have HX10 := Lib.hid (box3 hB10 (blkLt HX9.out) HX9.out)
      have HY10 := Lib.hid (box3 hB10 (blkLt HY9.out) HY9.out)
      clear hB10
      obtain ⟨x0, x1, x2⟩ := box3c HX10.out
      obtain ⟨y0, y1, y2⟩ := box3c HY10.out
      go_wp2
      go_ret
      exact ⟨rfl, HB10.out⟩
    · have f1 : ((cd : Int) == 0) = false := beq_eq_false_iff_ne.2 (by omega)
      have f2 : (cd == 0) = false := beq_eq_false_iff_ne.2 hc
      clear HOG
      go_wp2
      go_ret
      exact ⟨rfl, HB4.out⟩
end Go.Proofs.YtdknejmhlfpdfaaGreatDoor
