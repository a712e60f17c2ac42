/-
  The statement OrderGoods, walked.
-/
import Derived.Test.YtdknejmhlfpdfaaGreatDoorOrLa
namespace Go.Proofs.YtdknejmhlfpdfaaGreatDoor
open Go.RowKit

theorem str_neL {a b : List UInt8} (h : a ≠ b) : ((bs a).toList == (bs b).toList) = false := by
  rw [beq_eq_false_iff_ne, ByteArray.toList_eq, ByteArray.toList_eq, bs_toList, bs_toList]; exact h
theorem ord_nil : ordM [] = (zO, 16) := by unfold ordM; rw [if_neg (by decide)]; exact ordL_nil
/-- What Parse says of the line of an order that is none is not that order. -/
theorem ord_not {o : OrdM} (h : ¬ GoodO o) (p : OrdM) (c : Nat) (hp : ordM (txtO o) = (p, c)) :
    c ≠ 0 ∨ (c = 0 ∧ p.kind ≠ o.kind) ∨ (c = 0 ∧ p.kind = o.kind ∧ p.name ≠ o.name) ∨ (c = 0 ∧ p.kind = o.kind ∧ p.name = o.name ∧ p.num ≠ o.num) := by
  by_cases h0 : c = 0
  · subst h0
    have hg := ord_good hp
    by_cases h1 : p.kind = o.kind
    · by_cases h2 : p.name = o.name
      · by_cases h3 : p.num = o.num
        · exfalso
          apply h
          have : p = o := by cases p; cases o; simp_all
          rw [← this]; exact hg
        · exact .inr (.inr (.inr ⟨rfl, h1, h2, h3⟩))
      · exact .inr (.inr (.inl ⟨rfl, h1, h2⟩))
    · exact .inr (.inl ⟨rfl, h1⟩)
  · exact .inl h0
set_option maxRecDepth 100000 in
set_option maxHeartbeats 8000000 in
theorem orderGoods_law {X : World → Prop} (HP : PaC X) (HG : GoC X) (HT : TeC X) (HK : KeC X) (kd : Int) (a : ByteArray) (nu : Int) (hk : i64 kd) (hn : i64 nu) (w : World) (hX : X w) :
    Calls Tryz.prog 4 #[.agg #[.int .i64 kd, .string a, .int .i64 nu]] w fun e w' => e = .returned (.bool true) ∧ Below w.heap.size w w' := by
  have hK := Lib.hid (fun W (hb : Below w.heap.size w W) => HK w W _ hX hb (Nat.le_refl _))
  have HAW := Lib.hid (fun W (hb : Below w.heap.size w W) => ordAwake_calls HP W (hK.out W hb))
  obtain ⟨nm, rfl⟩ : ∃ t, a = bs t := ⟨a.data.toList, by apply WideShapes.bytes_inj; rw [bs_toList]⟩
  have hsz : (bs nm).size = nm.length := bs_size nm
  obtain ⟨N, hN⟩ : ∃ N, N = bs nm := ⟨_, rfl⟩
  have HN := Lib.hid hN
  have HB0 := Lib.hid ((Below.refl w.heap.size w).alloc (Nat.le_refl _) (.cells #[.int .i64 kd, .string N, .int .i64 nu] 24))
  have HX0 := Lib.hid (heapOne w #[.int .i64 kd, .string N, .int .i64 nu] 24)
  rw [← hN] at hsz ⊢
  clear hN
  go_enter Tryz.func4, Tryz.ntmps4
  go_wp2_with fail
  generalize w.alloc (.cells #[.int .i64 kd, .string N, .int .i64 nu] 24) = W0 at *
  refine (HAW.out _ HB0.out).mono ?_
  rintro e w1 ⟨rfl, hB1⟩
  have HB1 := Lib.hid (HB0.out.trans (hB1.mono HB0.out.size))
  have HX1 := Lib.hid (box3 hB1 (blkLt HX0.out) HX0.out)
  clear hB1
  obtain ⟨x0, x1, x2⟩ := box3c HX1.out
  by_cases hl : 300 < nm.length
  · have d1 : decide ((300 : Int) < (nm.length : Int)) = true := decide_eq_true (by omega)
    go_wp2_with fail
    refine (HAW.out _ HB1.out).mono ?_
    rintro e w2 ⟨rfl, hB2⟩
    have HB2 := Lib.hid (HB1.out.trans (hB2.mono HB1.out.size))
    clear hB2
    go_wp2
    go_ret
    exact ⟨rfl, HB2.out⟩
  · have d1 : decide ((300 : Int) < (nm.length : Int)) = false := decide_eq_false (by omega)
    have hGX : GoodX ⟨kd, nm, nu⟩ := ⟨hk, hn, by simp only; omega⟩
    have HTC := Lib.hid (fun W (hb : Below w.heap.size w W) => HT _ hGX W (hK.out W hb))
    have HGC := Lib.hid (fun W (hb : Below w.heap.size w W) => HG _ hGX W (hK.out W hb))
    unfold ordV at HTC HGC
    dsimp only at HTC HGC
    rw [← HN.out] at HTC HGC
    by_cases hr : 1 ≤ kd ∧ kd ≤ 20
    · obtain ⟨k, rfl⟩ : ∃ k : Nat, kd = (k : Int) := ⟨kd.toNat, by omega⟩
      have e1 : decide ((1 : Int) ≤ (k : Int)) = true := decide_eq_true hr.1
      have e2 : decide ((k : Int) ≤ 20) = true := decide_eq_true hr.2
      have hk20 : k ≤ 20 := by omega
      have HRT := Lib.hid (fun W => ordText_calls k hk20 nm hGX.2.2 nu hn W)
      have htl : (txtO ⟨k, nm, nu⟩).length ≤ 100000 := by
        have z0 := (kw_word ⟨k, by omega⟩).2.1
        have z2 := (itoa_len20 hn).2
        simp only at z0
        unfold txtO placeT
        simp only [Int.toNat_natCast]
        split
        · simp only [List.length_append, List.length_cons]; omega
        · split
          · split
            · simp only [List.length_append, List.length_cons, List.length_nil]; omega
            · simp only [List.length_append, List.length_cons, List.length_nil]; omega
          · omega
      have HRC := Lib.hid (fun W => ordParse_calls (txtO ⟨k, nm, nu⟩) htl W)
      have HP2 := Lib.hid (fun W (hb : Below w.heap.size w W) => HP (txtO ⟨k, nm, nu⟩) htl W (hK.out W hb))
      have HTX := Lib.hid (fun (h : GoodO ⟨k, nm, nu⟩) => (ord_txt h).1)
      have HNT := Lib.hid (fun (h : ¬ GoodO ⟨k, nm, nu⟩) (p : OrdM) c => ord_not h p c)
      rw [← HN.out] at HRT
      clear hr htl
      generalize txtO ⟨k, nm, nu⟩ = T at *
      go_wp2_with fail
      refine (HRT.out _).mono ?_
      rintro e w2 ⟨rfl, hB2⟩
      have HB2 := Lib.hid (HB1.out.trans (hB2.mono HB1.out.size))
      have HX2 := Lib.hid (box3 hB2 (blkLt HX1.out) HX1.out)
      clear hB2 x0 x1 x2
      go_wp2_with fail
      refine (HRC.out _).mono ?_
      rintro e w3 ⟨rfl, hB3⟩
      have HB3 := Lib.hid (HB2.out.trans (hB3.mono HB2.out.size))
      have HX3 := Lib.hid (box3 hB3 (blkLt HX2.out) HX2.out)
      clear hB3
      obtain ⟨x0, x1, x2⟩ := box3c HX3.out
      by_cases hg : GoodO ⟨k, nm, nu⟩
      · have HGG := Lib.hid hg
        have ht := HTX.out hg
        rw [ht] at HP2 ⊢
        unfold ordV at HP2
        unfold ansO
        dsimp only at HP2 ⊢
        rw [← HN.out] at HP2 ⊢
        have hself := str_self N
        have hselfT := str_self (bs T)
        clear hg ht HTX HNT
        go_wp2_with fail
        refine (HGC.out _ HB3.out).mono ?_
        rintro e w4 ⟨⟨b, rfl, hb⟩, hB4⟩
        obtain rfl := hb.2 HGG.out
        have HB4 := Lib.hid (HB3.out.trans (hB4.mono HB3.out.size))
        have HX4 := Lib.hid (box3 hB4 (blkLt HX3.out) HX3.out)
        clear hB4 x0 x1 x2 hb
        obtain ⟨x0, x1, x2⟩ := box3c HX4.out
        go_wp2_with fail
        refine (HTC.out _ HB4.out).mono ?_
        rintro e w5 ⟨⟨s, rfl, hs, _⟩, hB5⟩
        obtain rfl := hs HGG.out
        have HB5 := Lib.hid (HB4.out.trans (hB5.mono HB4.out.size))
        have HX5 := Lib.hid (box3 hB5 (blkLt HX4.out) HX4.out)
        clear hB5 x0 x1 x2
        go_wp2_with fail
        refine (HP2.out _ HB5.out).mono ?_
        rintro e w6 ⟨rfl, hB6⟩
        have HB6 := Lib.hid (HB5.out.trans (hB6.mono HB5.out.size))
        have HX6 := Lib.hid (box3 hB6 (blkLt HX5.out) HX5.out)
        clear hB6
        have HY6 := Lib.hid (heapOne w6 #[.int .i64 k, .string N, .int .i64 nu] 24)
        have HBa := Lib.hid ((Below.refl w6.heap.size w6).alloc (Nat.le_refl _) (.cells #[.int .i64 k, .string N, .int .i64 nu] 24))
        have HX7 := Lib.hid (box3 HBa.out (blkLt HX6.out) HX6.out)
        have HB7 := Lib.hid (HB6.out.trans (HBa.out.mono HB6.out.size))
        obtain ⟨x0, x1, x2⟩ := box3c HX7.out
        clear HBa
        go_wp2_with fail
        generalize w6.alloc (.cells #[.int .i64 k, .string N, .int .i64 nu] 24) = w7 at *
        generalize w6.heap.size = g6 at *
        refine (HTC.out _ HB7.out).mono ?_
        rintro e w9 ⟨⟨s, rfl, hs, _⟩, hB9⟩
        obtain rfl := hs HGG.out
        have HB9 := Lib.hid (HB7.out.trans (hB9.mono HB7.out.size))
        have HX9 := Lib.hid (box3 hB9 (blkLt HX7.out) HX7.out)
        have HY9 := Lib.hid (box3 hB9 (blkLt HY6.out) HY6.out)
        clear hB9 x0 x1 x2
        obtain ⟨x0, x1, x2⟩ := box3c HX9.out
        obtain ⟨y0, y1, y2⟩ := box3c HY9.out
        go_wp2
        go_ret
        exact ⟨rfl, HB9.out⟩
      · have hng := hg
        have hw := HNT.out hg (ordM T).1 (ordM T).2 rfl
        unfold ansO
        clear HTX HNT HP2 hg
        generalize ordM T = r at *
        obtain ⟨⟨pk, pn, pu⟩, cd⟩ := r
        dsimp only at hw ⊢
        have hcs : (((cd : Int) == 0) = false ∧ (cd == 0) = false) ∨ (cd = 0 ∧ (pk == (k : Int)) = false) ∨ (cd = 0 ∧ pk = (k : Int) ∧ ((bs pn).toList == N.toList) = false) ∨ (cd = 0 ∧ pk = (k : Int) ∧ pn = nm ∧ (pu == nu) = false) := by
          rcases hw with h | ⟨h, h2⟩ | ⟨h, h2, h3⟩ | ⟨h, h2, h3, h4⟩
          · exact .inl ⟨beq_eq_false_iff_ne.2 (by omega), beq_eq_false_iff_ne.2 h⟩
          · exact .inr (.inl ⟨h, beq_eq_false_iff_ne.2 h2⟩)
          · exact .inr (.inr (.inl ⟨h, h2, by rw [HN.out]; exact str_neL h3⟩))
          · exact .inr (.inr (.inr ⟨h, h2, h3, beq_eq_false_iff_ne.2 h4⟩))
        have hself := str_self N
        clear hw
        rcases hcs with ⟨q1, q2⟩ | ⟨rfl, q1⟩ | ⟨rfl, rfl, q1⟩ | ⟨rfl, rfl, rfl, q1⟩
        rotate_left 3
        · rw [← HN.out]
          have HGN := Lib.hid hng
          go_wp2_with fail
          refine (HGC.out _ HB3.out).mono ?_
          rintro e w4 ⟨⟨b, rfl, hb⟩, hB4⟩
          have hbf : b = false := by
            cases b
            · rfl
            · exact absurd (hb.1 rfl) HGN.out
          subst hbf
          have HB4 := Lib.hid (HB3.out.trans (hB4.mono HB3.out.size))
          have HX4 := Lib.hid (box3 hB4 (blkLt HX3.out) HX3.out)
          clear hB4 x0 x1 x2 hb
          obtain ⟨x0, x1, x2⟩ := box3c HX4.out
          go_wp2_with fail
          refine (HTC.out _ HB4.out).mono ?_
          rintro e w5 ⟨⟨s, rfl, _, hs⟩, hB5⟩
          obtain rfl := hs HGN.out
          have HB5 := Lib.hid (HB4.out.trans (hB5.mono HB4.out.size))
          have hem : (bs []).toList = [] := by rw [ByteArray.toList_eq, bs_toList]
          clear hB5 x0 x1 x2
          go_wp2
          go_ret
          exact ⟨rfl, HB5.out⟩
        all_goals
          have HGN := Lib.hid hng
          go_wp2_with fail
          refine (HGC.out _ HB3.out).mono ?_
          rintro e w4 ⟨⟨b, rfl, hb⟩, hB4⟩
          have hbf : b = false := by
            cases b
            · rfl
            · exact absurd (hb.1 rfl) HGN.out
          subst hbf
          have HB4 := Lib.hid (HB3.out.trans (hB4.mono HB3.out.size))
          have HX4 := Lib.hid (box3 hB4 (blkLt HX3.out) HX3.out)
          clear hB4 x0 x1 x2 hb
          obtain ⟨x0, x1, x2⟩ := box3c HX4.out
          go_wp2_with fail
          refine (HTC.out _ HB4.out).mono ?_
          rintro e w5 ⟨⟨s, rfl, _, hs⟩, hB5⟩
          obtain rfl := hs HGN.out
          have HB5 := Lib.hid (HB4.out.trans (hB5.mono HB4.out.size))
          have hem : (bs []).toList = [] := by rw [ByteArray.toList_eq, bs_toList]
          clear hB5 x0 x1 x2
          go_wp2
          go_ret
          exact ⟨rfl, HB5.out⟩
    · have hcase : decide ((1 : Int) ≤ kd) = false ∨ (decide ((1 : Int) ≤ kd) = true ∧ decide (kd ≤ 20) = false) := by
        by_cases h : 1 ≤ kd
        · exact .inr ⟨decide_eq_true h, decide_eq_false (fun h2 => hr ⟨h, h2⟩)⟩
        · exact .inl (decide_eq_false h)
      have hng : ¬ GoodO ⟨kd, nm, nu⟩ := fun h => hr h.1
      have HRC := Lib.hid (fun W => ordParse_calls [] (by decide) W)
      rw [ord_nil] at HRC
      unfold ansO at HRC
      clear hr
      have HB2 := HB1
      have HX2 := HX1
      have hse : bs [] = ⟨#[]⟩ := rfl
      rw [hse] at HRC
      rcases hcase with e1 | ⟨e1, e2⟩
      all_goals
        go_wp2_with fail
        refine (HRC.out _).mono ?_
        rintro e w3 ⟨rfl, hB3⟩
        have HB3 := Lib.hid (HB2.out.trans (hB3.mono HB2.out.size))
        have HX3 := Lib.hid (box3 hB3 (blkLt HX2.out) HX2.out)
        clear hB3 x0 x1 x2
        obtain ⟨x0, x1, x2⟩ := box3c HX3.out
        have HGN := Lib.hid hng
        go_wp2_with fail
        refine (HGC.out _ HB3.out).mono ?_
        rintro e w4 ⟨⟨b, rfl, hb⟩, hB4⟩
        have hbf : b = false := by
          cases b
          · rfl
          · exact absurd (hb.1 rfl) HGN.out
        subst hbf
        have HB4 := Lib.hid (HB3.out.trans (hB4.mono HB3.out.size))
        have HX4 := Lib.hid (box3 hB4 (blkLt HX3.out) HX3.out)
        clear hB4 x0 x1 x2 hb
        obtain ⟨x0, x1, x2⟩ := box3c HX4.out
        go_wp2_with fail
        refine (HTC.out _ HB4.out).mono ?_
        rintro e w5 ⟨⟨s, rfl, _, hs⟩, hB5⟩
        obtain rfl := hs HGN.out
        have HB5 := Lib.hid (HB4.out.trans (hB5.mono HB4.out.size))
        have hem : (bs []).toList = [] := by rw [ByteArray.toList_eq, bs_toList]
        clear hB5 x0 x1 x2
        go_wp2
        go_ret
        exact ⟨rfl, HB5.out⟩
end Go.Proofs.YtdknejmhlfpdfaaGreatDoor
