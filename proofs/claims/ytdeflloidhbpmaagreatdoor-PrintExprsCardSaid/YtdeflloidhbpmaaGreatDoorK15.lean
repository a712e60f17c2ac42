/-
  Functions.
-/
import Derived.Test.YtdeflloidhbpmaaGreatDoorK14
namespace Go.Proofs.YtdeflloidhbpmaaGreatDoor
open Go.RowKit

theorem Tryz.sizeFu : (Tryz.prog.info? 69).map (·.size) = some 6 := by kernel_rfl
set_option maxRecDepth 100000 in
set_option maxHeartbeats 1000000 in
theorem fun1_calls (C : Cx) (S : Nat → Prop) (d : Nat) (s : Sg) (b1 : Nat) (w : World) (c1 : w.cell? ⟨b1, 0, none⟩ = some (.pointer (some ⟨C.q, 0, none⟩))) (h : PAt C S d s w) :
    Calls Tryz.prog 107 #[.pointer (some ⟨b1, 0, none⟩)] w (OutP C S (d + 1) strV (takeK C.T 1 s) w) := by
  have HP := Lib.hid (takeA_calls C S d s 1 (by decide) w h)
  generalize takeK C.T 1 s = r at HP
  clear h
  go_enter Tryz.func107, Tryz.ntmps107
  go_wp2_with fail
  refine HP.out.mono ?_
  intro e w1 h1
  have H1 := Lib.hid h1
  cases r with
  | no c i =>
    obtain rfl := h1.1
    go_wp2
    exact ⟨rfl, H1.out⟩
  | ok a s1 =>
    obtain ⟨rfl, _, _⟩ := h1
    unfold strV at H1 ⊢
    go_wp2
    go_ret
    exact H1.out
theorem OutP.less {α : Type} {C : Cx} {S : Nat → Prop} {d d' : Nat} {val : α → Value} {r : Rs α} {w w' : World} {e : Ending} (h : OutP C S d val r w e w') (hd : d' ≤ d) : OutP C S d' val r w e w' := by
  cases r with
  | no c i => exact h
  | ok a s => exact ⟨h.1, h.2.1.less hd, h.2.2⟩

set_option maxRecDepth 100000 in
set_option maxHeartbeats 8000000 in
theorem function_calls (C : Cx) (S : Nat → Prop) (d : Nat) (s : Sg) (hb : BlockC C 1 (blockM C.T 64)) (w : World) (h : PAt C S d s w) : Calls Tryz.prog 74 #[.pointer (some ⟨C.q, 0, none⟩)] w (OutP C S d unitV (functionM C.T s) w) := by
  obtain ⟨R, hR⟩ : ∃ R, functionM C.T s = R := ⟨_, rfl⟩
  rw [hR]
  have HR := Lib.hid hR
  have H := Lib.hid h
  clear h hR
  unfold functionM at HR
  have HB := Lib.hid hb
  clear hb
  have hwq := H.out.qlt
  have P0 := Lib.hid (H.out.allocA (.cells #[.pointer (some ⟨C.q, 0, none⟩)] 74))
  have K0 := Lib.hid (Keep.alloc H.out (.cells #[.pointer (some ⟨C.q, 0, none⟩)] 74))
  have bP0 := Lib.hid (heap_one w #[.pointer (some ⟨C.q, 0, none⟩)] 74)
  generalize hlo : (cur C.T s).lo = lo at HR
  have hfr := Lib.hid (fun W (hP : PAt C (Also S w.heap.size) d s W) => hlo ▸ from_calls C (Also S w.heap.size) d s W hP)
  clear hlo
  have his := Lib.hid (isL_calls C (Also S w.heap.size) d s [kFunc] _ rfl 1 rfl (by decide) _ P0.out (w.heap.size + 1) (by simp))
  have hln := Lib.hid (fun W (hP : PAt C (Also S w.heap.size) d s W) => fnLen_calls C (Also S w.heap.size) d s W hP)
  have hmf : ∀ (fn : Fn) (first cap : Array Value) (w : World), (Instr.makeFunc fn first cap).run Tryz.prog w = .ok (.func fn first cap) w := fun _ _ _ _ => rfl
  go_enter Tryz.func74, Tryz.ntmps74
  cases hb : isP C.T [kFunc] s
  · rw [hb] at his
    have HR1 := Lib.hid ((ifF (b := isP C.T [kFunc] s && s.fn.length == 32) (by rw [hb]; rfl)).symm.trans HR.out)
    clear hb HR
    go_wp2_with fail
    refine (his.out).mono ?_
    rintro e w1 ⟨rfl, hB⟩
    have P1 := Lib.hid (P0.out.below hB)
    have K1 := Lib.hid (K0.out.trans ((P0.out.belowK hB).sub (fun _ h => .inl (h))))
    have bP1 := Lib.hid ((hB.block _ (blk_lt bP0.out)).trans bP0.out)
    clear hB
    have cp1 : w1.cell? ⟨w.heap.size, 0, none⟩ = some (.pointer (some ⟨C.q, 0, none⟩)) := by simp [World.cell?, bP1.out]
    go_wp2_with fail
    refine (hfr.out _ P1.out).mono ?_
    rintro e w2 ⟨rfl, hB⟩
    have P2 := Lib.hid (P1.out.below hB)
    have K2 := Lib.hid (K1.out.trans ((P1.out.belowK hB).sub (fun _ h => .inl (h))))
    have bP2 := Lib.hid ((hB.block _ (blk_lt bP1.out)).trans bP1.out)
    clear hB
    have cp2 : w2.cell? ⟨w.heap.size, 0, none⟩ = some (.pointer (some ⟨C.q, 0, none⟩)) := by simp [World.cell?, bP2.out]
    go_wp2_with fail
    refine (takeL_calls C (Also S w.heap.size) d s [kFunc] _ rfl 1 rfl (by decide) (by decide) w2 P2.out _ rfl).mono ?_
    intro e w3 h3
    generalize hr : takeP C.T [kFunc] s = r at h3
    cases r with
    | no c i =>
      obtain rfl : R = .no c i := HR1.out.symm.trans (bd_no hr)
      clear hr
      obtain rfl := h3.1
      go_wp2
      exact ⟨rfl, bad_of h3 K2.out (fun _ h => .inl (h))⟩
    | ok o s3 =>
      have HR3 := Lib.hid ((bd_ok hr).symm.trans HR1.out)
      clear hr HR1
      obtain ⟨rfl, hp, hk⟩ := h3
      have P3 := Lib.hid hp
      have K3 := Lib.hid (K2.out.trans (hk.sub (fun _ h => .inl (h))))
      have bP3 := Lib.hid ((hk.kept _ (.inr rfl)).trans bP2.out)
      clear hp hk
      unfold strV
      have cp3 : w3.cell? ⟨w.heap.size, 0, none⟩ = some (.pointer (some ⟨C.q, 0, none⟩)) := by simp [World.cell?, bP3.out]
      go_wp2_with fail
      refine (takeA_calls C (Also S w.heap.size) (d + 1) s3 1 (by decide) w3 P3.out).mono ?_
      intro e w4 h4
      generalize hr : takeK C.T 1 s3 = r at h4
      cases r with
      | no c i =>
        obtain rfl : R = .no c i := HR3.out.symm.trans (bd_no hr)
        clear hr
        obtain rfl := h4.1
        go_wp2
        exact ⟨rfl, bad_of h4 K3.out (fun _ h => .inl (h))⟩
      | ok name s4 =>
        have HR4 := Lib.hid ((bd_ok hr).symm.trans HR3.out)
        clear hr HR3
        obtain ⟨rfl, hp, hk⟩ := h4
        have P4 := Lib.hid hp
        have K4 := Lib.hid (K3.out.trans (hk.sub (fun _ h => .inl (h))))
        have bP4 := Lib.hid ((hk.kept _ (.inr rfl)).trans bP3.out)
        clear hp hk
        unfold strV
        have cp4 : w4.cell? ⟨w.heap.size, 0, none⟩ = some (.pointer (some ⟨C.q, 0, none⟩)) := by simp [World.cell?, bP4.out]
        have hlbw : Hid (w.heap.size < w4.heap.size) := Lib.hid (blk_lt bP4.out)
        go_wp2_with (refine wpList_store_whole rfl 69 (.tmp 3) (.tmp 23) rfl w4.heap.size #[.string ⟨#[]⟩, .int .i64 0, .int .i64 0, .slice none 0 0, .int .i64 0, .slice none 0 0] (fuV ({ name := name, params := [], ty := 4, body := [] } : Fu) (.slice none 0 0) (.slice none 0 0)).toArray 69 (heap_one w4 _ _) rfl rfl rfl Tryz.sizeFu (all_oneCell_toArray (oneF ({ name := name, params := [], ty := 4, body := [] } : Fu) (.slice none 0 0) (.slice none 0 0) rfl rfl)) ?_; intro w5 ho5 hb5; have HO5 := Lib.hid ho5; have bL5 := Lib.hid hb5; have bPi5 := Lib.hid ((ho5.block _ (Nat.ne_of_lt hlbw.out)).trans ((Below.heap_alloc _ _ _ (blk_lt bP4.out)).trans bP4.out)); have cpi5 : w5.cell? ⟨w.heap.size, 0, none⟩ = some (.pointer (some ⟨C.q, 0, none⟩)) := (by simp [World.cell?, bPi5.out]); clear ho5 hb5)
        have P5 := Lib.hid ((P4.out.allocA (.cells #[.string ⟨#[]⟩, .int .i64 0, .int .i64 0, .slice none 0 0, .int .i64 0, .slice none 0 0] 69)).only HO5.out (.inr rfl))
        have K5 := Lib.hid ((K4.out.trans ((Keep.alloc P4.out (.cells #[.string ⟨#[]⟩, .int .i64 0, .int .i64 0, .slice none 0 0, .int .i64 0, .slice none 0 0] 69)).sub (fun _ h => .inl (h)))).only HO5.out (by have := P4.out.qlt; omega) (fun e => by have h1 := (H.out.sLt _ e).2; have h2 := K4.out.below.size; omega))
        have bP5 := Lib.hid ((HO5.out.block _ (by have := blk_lt bP4.out; omega)).trans ((Below.heap_alloc _ _ _ (blk_lt bP4.out)).trans bP4.out))
        have cp5 : w5.cell? ⟨w.heap.size, 0, none⟩ = some (.pointer (some ⟨C.q, 0, none⟩)) := by simp [World.cell?, bP5.out]
        go_wp2_with fail
        refine (listT_calls C (Also (Also S w.heap.size) w4.heap.size) (d + 1 + 1) s4 107 #[.pointer (some ⟨w.heap.size, 0, none⟩)] (takeK C.T 1) w5 P5.out ⟨fun args w => by simp [go_sem], fun S' d' s' w' hS hk h' => (fun1_calls C S' d' s' w.heap.size w' ((World.cell?_of_block (a := ⟨w.heap.size, 0, none⟩) (hk.kept _ (.inl (.inr rfl)))).trans cp5) h').mono fun _ _ hh => hh.less (Nat.le_succ _)⟩ (fine_takeK P5.out.tk (by decide))).mono ?_
        intro e w6 h6
        generalize hr : listM C.T (takeK C.T 1) s4 = r at h6
        cases r with
        | no c i =>
          obtain rfl : R = .no c i := HR4.out.symm.trans (bd_no hr)
          clear hr
          obtain rfl := h6.1
          go_wp2
          exact ⟨rfl, bad_of h6 K5.out (fun _ h => .inl (.inl (h)))⟩
        | ok ps s6 =>
          have HR6 := Lib.hid ((bd_ok hr).symm.trans HR4.out)
          clear hr HR4
          obtain ⟨v6, rfl, hl, hp, hk⟩ := h6
          obtain ⟨A6, c6, rfl⟩ : ∃ A c, v6 = .slice A (strsV ps).length c := by obtain ⟨A, c, e, _⟩ := hl; exact ⟨A, _, e⟩
          have P6 := Lib.hid hp
          have K6 := Lib.hid (K5.out.trans (hk.sub (fun _ h => .inl (.inl (h)))))
          have bP6 := Lib.hid ((hk.kept _ (.inl (.inr rfl))).trans bP5.out)
          have bL6 := Lib.hid ((hk.kept _ (.inr rfl)).trans bL5.out)
          have L6x6 := Lib.hid hl
          clear hl hp hk
          have cp6 : w6.cell? ⟨w.heap.size, 0, none⟩ = some (.pointer (some ⟨C.q, 0, none⟩)) := by simp [World.cell?, bP6.out]
          have af0 : w6.frozen? ⟨w4.heap.size, 0, none⟩ = false := by simp [World.frozen?, bL6.out]
          have ac0 : w6.cell? ⟨w4.heap.size, 0, none⟩ = some (.string (bs name)) := by simp [World.cell?, bL6.out, fuV, bs]
          have af1 : w6.frozen? ⟨w4.heap.size, 1, none⟩ = false := by simp [World.frozen?, bL6.out]
          have ac1 : w6.cell? ⟨w4.heap.size, 1, none⟩ = some (.int .i64 0) := by simp [World.cell?, bL6.out, fuV, bs]
          have af2 : w6.frozen? ⟨w4.heap.size, 2, none⟩ = false := by simp [World.frozen?, bL6.out]
          have ac2 : w6.cell? ⟨w4.heap.size, 2, none⟩ = some (.int .i64 0) := by simp [World.cell?, bL6.out, fuV, bs]
          have af3 : w6.frozen? ⟨w4.heap.size, 3, none⟩ = false := by simp [World.frozen?, bL6.out]
          have ac3 : w6.cell? ⟨w4.heap.size, 3, none⟩ = some (.slice none 0 0) := by simp [World.cell?, bL6.out, fuV, bs]
          have af4 : w6.frozen? ⟨w4.heap.size, 4, none⟩ = false := by simp [World.frozen?, bL6.out]
          have ac4 : w6.cell? ⟨w4.heap.size, 4, none⟩ = some (.int .i64 4) := by simp [World.cell?, bL6.out, fuV, bs]
          have af5 : w6.frozen? ⟨w4.heap.size, 5, none⟩ = false := by simp [World.frozen?, bL6.out]
          have ac5 : w6.cell? ⟨w4.heap.size, 5, none⟩ = some (.slice none 0 0) := by simp [World.cell?, bL6.out, fuV, bs]
          have HO7 := Lib.hid ((Only.refl w4.heap.size w6).set 3 ((.slice A6 (strsV ps).length c6)))
          have P7 := Lib.hid (P6.out.only HO7.out (.inl (.inr rfl)))
          have K7 := Lib.hid (K6.out.only HO7.out (by have := (P6.out.sLt _ (.inl (.inr rfl))).1; omega) (fun e => by have h1 := (H.out.sLt _ e).2; have h2 := hlbw.out; omega))
          have ff7 : w6.frozen? ⟨w4.heap.size, 3, none⟩ = false := by simp [World.frozen?, bL6.out]
          have fc7 : w6.cell? ⟨w4.heap.size, 3, none⟩ = some (.slice none 0 0) := by simp [World.cell?, bL6.out, fuV, bs]
          have bP7 := Lib.hid ((HO7.out.block _ (by have h1 := hlbw.out; omega)).trans bP6.out)
          have bL7 := Lib.hid (setCell_at w6 w4.heap.size 3 ((.slice A6 (strsV ps).length c6)) _ _ _ bL6.out)
          have L6x7 := Lib.hid (L6x6.out.only HO7.out fun g hg => ⟨hg, fun e => hg.2 (e ▸ .inr rfl)⟩)
          have cpx7 : (w6.setCell ⟨w4.heap.size, 3, none⟩ ((.slice A6 (strsV ps).length c6))).cell? ⟨w.heap.size, 0, none⟩ = some (.pointer (some ⟨C.q, 0, none⟩)) := by simp only [World.cell?, bP7.out]; rfl
          obtain ⟨X, hX⟩ : ∃ X : Ps Nat, X = (fun s1 => if isP C.T [kInt] s1 then bd (takeP C.T [kInt]) (fun _ => okP 1) s1 else .ok 4 s1) := ⟨_, rfl⟩
          have HRX : Hid (bd X (fun ty => bd (blockM C.T 64) fun body => putF C.T lo { name := name, params := ps, ty := ty, body := body }) s6 = R) := Lib.hid (hX ▸ HR6.out)
          clear HR6
          have hi := Lib.hid (isL_calls C (With (Also (Also S w.heap.size) w4.heap.size) (.slice A6 (strsV ps).length c6)) (d + 1 + 1 + 1 + 1) s6 [kInt] _ rfl 1 rfl (by decide) (w6.setCell ⟨w4.heap.size, 3, none⟩ ((.slice A6 (strsV ps).length c6))) P7.out (w6.heap.size) (by simp [World.setCell]))
          cases hb : isP C.T [kInt] s6
          · rw [hb] at hi
            have HRt := Lib.hid ((bd_ok (x := X) (show X s6 = .ok 4 s6 by rw [hX]; exact ifF hb)).symm.trans HRX.out)
            clear hb HRX hX
            go_wp2_with fail
            refine (hi.out).mono ?_
            rintro e w8 ⟨rfl, hB⟩
            have P8 := Lib.hid (P7.out.below hB)
            have K8 := Lib.hid (K7.out.trans ((P7.out.belowK hB).sub (fun _ h => .inl (.inl (.inl (h))))))
            have bP8 := Lib.hid ((hB.block _ (blk_lt bP7.out)).trans bP7.out)
            have bL8 := Lib.hid ((hB.block _ (blk_lt bL7.out)).trans bL7.out)
            have L6x8 := Lib.hid (L6x7.out.keep hB.size fun g _ hf hlt => ⟨hf, hB.block g hlt⟩)
            clear hB
            have cp8 : w8.cell? ⟨w.heap.size, 0, none⟩ = some (.pointer (some ⟨C.q, 0, none⟩)) := by simp [World.cell?, bP8.out]
            go_wp2_with fail
            refine ((show BlockC C 1 (blockM C.T 64) from HB.out) (With (Also (Also S w.heap.size) w4.heap.size) (.slice A6 (strsV ps).length c6)) (d + 1 + 1 + 1 + 1) s6 _ P8.out).mono ?_
            intro e w9 h9
            generalize hr : blockM C.T 64 s6 = r at h9
            cases r with
            | no c i =>
              obtain rfl : R = .no c i := HRt.out.symm.trans (bd_no hr)
              clear hr
              obtain rfl := h9.1
              go_wp2
              exact ⟨rfl, bad_of h9 K8.out (fun _ h => .inl (.inl (.inl (h))))⟩
            | ok body s9 =>
              have HR9 := Lib.hid ((bd_ok hr).symm.trans HRt.out)
              clear hr HRt
              obtain ⟨v9, rfl, hl, hp, hk⟩ := h9
              obtain ⟨A9, c9, rfl⟩ : ∃ A c, v9 = .slice A (intsV body).length c := by obtain ⟨A, c, e, _⟩ := hl; exact ⟨A, _, e⟩
              have P9 := Lib.hid hp
              have K9 := Lib.hid (K8.out.trans (hk.sub (fun _ h => .inl (.inl (.inl (h))))))
              have bP9 := Lib.hid ((hk.kept _ (.inl (.inl (.inr rfl)))).trans bP8.out)
              have bL9 := Lib.hid ((hk.kept _ (.inl (.inr rfl))).trans bL8.out)
              have L6x9 := Lib.hid (L6x8.out.keep hk.below.size fun g hg hf _ => ⟨hf, hk.kept g (.inr hg)⟩)
              have L9x9 := Lib.hid hl
              clear hl hp hk
              have cp9 : w9.cell? ⟨w.heap.size, 0, none⟩ = some (.pointer (some ⟨C.q, 0, none⟩)) := by simp [World.cell?, bP9.out]
              have df0 : w9.frozen? ⟨w4.heap.size, 0, none⟩ = false := by simp [World.frozen?, bL9.out]
              have dc0 : w9.cell? ⟨w4.heap.size, 0, none⟩ = some (.string (bs name)) := by simp [World.cell?, bL9.out, fuV, bs]
              have df1 : w9.frozen? ⟨w4.heap.size, 1, none⟩ = false := by simp [World.frozen?, bL9.out]
              have dc1 : w9.cell? ⟨w4.heap.size, 1, none⟩ = some (.int .i64 0) := by simp [World.cell?, bL9.out, fuV, bs]
              have df2 : w9.frozen? ⟨w4.heap.size, 2, none⟩ = false := by simp [World.frozen?, bL9.out]
              have dc2 : w9.cell? ⟨w4.heap.size, 2, none⟩ = some (.int .i64 0) := by simp [World.cell?, bL9.out, fuV, bs]
              have df3 : w9.frozen? ⟨w4.heap.size, 3, none⟩ = false := by simp [World.frozen?, bL9.out]
              have dc3 : w9.cell? ⟨w4.heap.size, 3, none⟩ = some ((.slice A6 (strsV ps).length c6)) := by simp [World.cell?, bL9.out, fuV, bs]
              have df4 : w9.frozen? ⟨w4.heap.size, 4, none⟩ = false := by simp [World.frozen?, bL9.out]
              have dc4 : w9.cell? ⟨w4.heap.size, 4, none⟩ = some (.int .i64 4) := by simp [World.cell?, bL9.out, fuV, bs]
              have df5 : w9.frozen? ⟨w4.heap.size, 5, none⟩ = false := by simp [World.frozen?, bL9.out]
              have dc5 : w9.cell? ⟨w4.heap.size, 5, none⟩ = some (.slice none 0 0) := by simp [World.cell?, bL9.out, fuV, bs]
              have HO10 := Lib.hid ((Only.refl w4.heap.size w9).set 5 ((.slice A9 (intsV body).length c9)))
              have P10 := Lib.hid (P9.out.only HO10.out (.inl (.inl (.inr rfl))))
              have K10 := Lib.hid (K9.out.only HO10.out (by have := (P9.out.sLt _ (.inl (.inl (.inr rfl)))).1; omega) (fun e => by have h1 := (H.out.sLt _ e).2; have h2 := hlbw.out; omega))
              have ff10 : w9.frozen? ⟨w4.heap.size, 5, none⟩ = false := by simp [World.frozen?, bL9.out]
              have fc10 : w9.cell? ⟨w4.heap.size, 5, none⟩ = some (.slice none 0 0) := by simp [World.cell?, bL9.out, fuV, bs]
              have bP10 := Lib.hid ((HO10.out.block _ (by have h1 := hlbw.out; omega)).trans bP9.out)
              have bL10 := Lib.hid (setCell_at w9 w4.heap.size 5 ((.slice A9 (intsV body).length c9)) _ _ _ bL9.out)
              have L6x10 := Lib.hid (L6x9.out.only HO10.out fun g hg => ⟨hg, fun e => hg.2 (e ▸ .inr rfl)⟩)
              have L9x10 := Lib.hid (L9x9.out.only HO10.out fun g hg => ⟨hg, fun e => hg.2 (e ▸ .inl (.inr rfl))⟩)
              have cpx10 : (w9.setCell ⟨w4.heap.size, 5, none⟩ ((.slice A9 (intsV body).length c9))).cell? ⟨w.heap.size, 0, none⟩ = some (.pointer (some ⟨C.q, 0, none⟩)) := by simp only [World.cell?, bP10.out]; rfl
              have hsi := Lib.hid (since_calls C (With (With (Also (Also S w.heap.size) w4.heap.size) (.slice A6 (strsV ps).length c6)) (.slice A9 (intsV body).length c9)) (d + 1 + 1 + 1 + 1) s9 (lo : Int) _ P10.out)
              have hR9 : (Rs.ok () { s9 with fn := s9.fn ++ [{ name := name, lo := lo, hi := lastHi C.T s9, params := ps, ty := 4, body := body }] } : Rs Unit) = R := HR9.out
              generalize lastHi C.T s9 = hi' at hsi hR9
              have HRz := Lib.hid hR9
              clear hR9 HR9
              go_wp2_with fail
              refine (hsi.out).mono ?_
              rintro e w11 ⟨rfl, hB⟩
              have P11 := Lib.hid (P10.out.below hB)
              have K11 := Lib.hid (K10.out.trans ((P10.out.belowK hB).sub (fun _ h => .inl (.inl (.inl (.inl (h)))))))
              have bP11 := Lib.hid ((hB.block _ (blk_lt bP10.out)).trans bP10.out)
              have bL11 := Lib.hid ((hB.block _ (blk_lt bL10.out)).trans bL10.out)
              have L6x11 := Lib.hid (L6x10.out.keep hB.size fun g _ hf hlt => ⟨hf, hB.block g hlt⟩)
              have L9x11 := Lib.hid (L9x10.out.keep hB.size fun g _ hf hlt => ⟨hf, hB.block g hlt⟩)
              clear hB
              have cp11 : w11.cell? ⟨w.heap.size, 0, none⟩ = some (.pointer (some ⟨C.q, 0, none⟩)) := by simp [World.cell?, bP11.out]
              have ef0 : w11.frozen? ⟨w4.heap.size, 0, none⟩ = false := by simp [World.frozen?, bL11.out]
              have ec0 : w11.cell? ⟨w4.heap.size, 0, none⟩ = some (.string (bs name)) := by simp [World.cell?, bL11.out, fuV, bs]
              have ef1 : w11.frozen? ⟨w4.heap.size, 1, none⟩ = false := by simp [World.frozen?, bL11.out]
              have ec1 : w11.cell? ⟨w4.heap.size, 1, none⟩ = some (.int .i64 0) := by simp [World.cell?, bL11.out, fuV, bs]
              have ef2 : w11.frozen? ⟨w4.heap.size, 2, none⟩ = false := by simp [World.frozen?, bL11.out]
              have ec2 : w11.cell? ⟨w4.heap.size, 2, none⟩ = some (.int .i64 0) := by simp [World.cell?, bL11.out, fuV, bs]
              have ef3 : w11.frozen? ⟨w4.heap.size, 3, none⟩ = false := by simp [World.frozen?, bL11.out]
              have ec3 : w11.cell? ⟨w4.heap.size, 3, none⟩ = some ((.slice A6 (strsV ps).length c6)) := by simp [World.cell?, bL11.out, fuV, bs]
              have ef4 : w11.frozen? ⟨w4.heap.size, 4, none⟩ = false := by simp [World.frozen?, bL11.out]
              have ec4 : w11.cell? ⟨w4.heap.size, 4, none⟩ = some (.int .i64 4) := by simp [World.cell?, bL11.out, fuV, bs]
              have ef5 : w11.frozen? ⟨w4.heap.size, 5, none⟩ = false := by simp [World.frozen?, bL11.out]
              have ec5 : w11.cell? ⟨w4.heap.size, 5, none⟩ = some ((.slice A9 (intsV body).length c9)) := by simp [World.cell?, bL11.out, fuV, bs]
              have HP9 := Lib.hid (fun W (ho : Only w4.heap.size w11 W) => putF_calls C S d s9 ({ name := name, lo := lo, hi := hi', params := ps, ty := 4, body := body } : Fu) (.slice A6 (strsV ps).length c6) (.slice A9 (intsV body).length c9) W (((P11.out.only ho (.inl (.inl (.inr rfl)))).less (by omega)).sub (fun b hb => hb.imp (fun h => h.imp (fun h => .inl (.inl h)) id) id)) (L6x11.out.only ho fun g hg => ⟨⟨hg.1, fun e => hg.2 (.inl (.inl e))⟩, fun e => hg.2 (e ▸ .inr rfl)⟩) (L9x11.out.only ho fun g hg => ⟨⟨hg.1, fun e => hg.2 (.inl (.inl (.inl e)))⟩, fun e => hg.2 (e ▸ .inl (.inr rfl))⟩))
              have HK9 := Lib.hid (fun W (ho : Only w4.heap.size w11 W) => K11.out.only ho (by have := (P11.out.sLt _ (.inl (.inl (.inr rfl)))).1; omega) (fun e => by have h1 := (H.out.sLt _ e).2; have h2 := hlbw.out; omega))
              have HC9 := Lib.hid bP11.out
              go_wp2
              go_region_with (go_at_call 110; refine (HP9.out _ ((((Only.refl _ _).set 1 _).set 2 _).drew)).mono ?_; intro e w98 h98; obtain ⟨rfl, h3⟩ := h98; have H98 := Lib.hid h3; clear h3; unfold natV)
              all_goals
                go_wp2
                go_end0
                obtain rfl : R = _ := HRz.out.symm
                exact ⟨rfl, H98.out.1, (HK9.out _ ((((Only.refl _ _).set 1 _).set 2 _).drew)).trans H98.out.2⟩
          · rw [hb] at hi
            have HRt : Hid (bd (takeP C.T [kInt]) (fun _ s' => (bd (blockM C.T 64) fun body => putF C.T lo { name := name, params := ps, ty := 1, body := body }) s') s6 = R) := Lib.hid (by
                have h1 := HRX.out
                have h2 : X s6 = bd (takeP C.T [kInt]) (fun _ => okP 1) s6 := by rw [hX]; exact ifT hb
                rw [← h1]
                unfold bd at h2 ⊢
                rw [h2]
                cases takeP C.T [kInt] s6 <;> rfl)
            clear hb HRX hX
            go_wp2_with fail
            refine (hi.out).mono ?_
            rintro e w8 ⟨rfl, hB⟩
            have P8 := Lib.hid (P7.out.below hB)
            have K8 := Lib.hid (K7.out.trans ((P7.out.belowK hB).sub (fun _ h => .inl (.inl (.inl (h))))))
            have bP8 := Lib.hid ((hB.block _ (blk_lt bP7.out)).trans bP7.out)
            have bL8 := Lib.hid ((hB.block _ (blk_lt bL7.out)).trans bL7.out)
            have L6x8 := Lib.hid (L6x7.out.keep hB.size fun g _ hf hlt => ⟨hf, hB.block g hlt⟩)
            clear hB
            have cp8 : w8.cell? ⟨w.heap.size, 0, none⟩ = some (.pointer (some ⟨C.q, 0, none⟩)) := by simp [World.cell?, bP8.out]
            go_wp2_with fail
            refine (takeL_calls C (With (Also (Also S w.heap.size) w4.heap.size) (.slice A6 (strsV ps).length c6)) (d + 1 + 1 + 1 + 1) s6 [kInt] _ rfl 1 rfl (by decide) (by decide) w8 P8.out _ rfl).mono ?_
            intro e w9 h9
            generalize hr : takeP C.T [kInt] s6 = r at h9
            cases r with
            | no c i =>
              obtain rfl : R = .no c i := HRt.out.symm.trans (bd_no hr)
              clear hr
              obtain rfl := h9.1
              go_wp2
              exact ⟨rfl, bad_of h9 K8.out (fun _ h => .inl (.inl (.inl (h))))⟩
            | ok o2 s9 =>
              have HR9 := Lib.hid ((bd_ok hr).symm.trans HRt.out)
              clear hr HRt
              obtain ⟨rfl, hp, hk⟩ := h9
              have P9 := Lib.hid hp
              have K9 := Lib.hid (K8.out.trans (hk.sub (fun _ h => .inl (.inl (.inl (h))))))
              have bP9 := Lib.hid ((hk.kept _ (.inl (.inl (.inr rfl)))).trans bP8.out)
              have bL9 := Lib.hid ((hk.kept _ (.inl (.inr rfl))).trans bL8.out)
              have L6x9 := Lib.hid (L6x8.out.keep hk.below.size fun g hg hf _ => ⟨hf, hk.kept g (.inr hg)⟩)
              clear hp hk
              unfold strV
              have cp9 : w9.cell? ⟨w.heap.size, 0, none⟩ = some (.pointer (some ⟨C.q, 0, none⟩)) := by simp [World.cell?, bP9.out]
              have bf0 : w9.frozen? ⟨w4.heap.size, 0, none⟩ = false := by simp [World.frozen?, bL9.out]
              have bc0 : w9.cell? ⟨w4.heap.size, 0, none⟩ = some (.string (bs name)) := by simp [World.cell?, bL9.out, fuV, bs]
              have bf1 : w9.frozen? ⟨w4.heap.size, 1, none⟩ = false := by simp [World.frozen?, bL9.out]
              have bc1 : w9.cell? ⟨w4.heap.size, 1, none⟩ = some (.int .i64 0) := by simp [World.cell?, bL9.out, fuV, bs]
              have bf2 : w9.frozen? ⟨w4.heap.size, 2, none⟩ = false := by simp [World.frozen?, bL9.out]
              have bc2 : w9.cell? ⟨w4.heap.size, 2, none⟩ = some (.int .i64 0) := by simp [World.cell?, bL9.out, fuV, bs]
              have bf3 : w9.frozen? ⟨w4.heap.size, 3, none⟩ = false := by simp [World.frozen?, bL9.out]
              have bc3 : w9.cell? ⟨w4.heap.size, 3, none⟩ = some ((.slice A6 (strsV ps).length c6)) := by simp [World.cell?, bL9.out, fuV, bs]
              have bf4 : w9.frozen? ⟨w4.heap.size, 4, none⟩ = false := by simp [World.frozen?, bL9.out]
              have bc4 : w9.cell? ⟨w4.heap.size, 4, none⟩ = some (.int .i64 4) := by simp [World.cell?, bL9.out, fuV, bs]
              have bf5 : w9.frozen? ⟨w4.heap.size, 5, none⟩ = false := by simp [World.frozen?, bL9.out]
              have bc5 : w9.cell? ⟨w4.heap.size, 5, none⟩ = some (.slice none 0 0) := by simp [World.cell?, bL9.out, fuV, bs]
              have HO10 := Lib.hid ((Only.refl w4.heap.size w9).set 4 (.int .i64 1))
              have P10 := Lib.hid (P9.out.only HO10.out (.inl (.inr rfl)))
              have K10 := Lib.hid (K9.out.only HO10.out (by have := (P9.out.sLt _ (.inl (.inr rfl))).1; omega) (fun e => by have h1 := (H.out.sLt _ e).2; have h2 := hlbw.out; omega))
              have ff10 : w9.frozen? ⟨w4.heap.size, 4, none⟩ = false := by simp [World.frozen?, bL9.out]
              have fc10 : w9.cell? ⟨w4.heap.size, 4, none⟩ = some (.int .i64 4) := by simp [World.cell?, bL9.out, fuV, bs]
              have bP10 := Lib.hid ((HO10.out.block _ (by have h1 := hlbw.out; omega)).trans bP9.out)
              have bL10 := Lib.hid (setCell_at w9 w4.heap.size 4 (.int .i64 1) _ _ _ bL9.out)
              have L6x10 := Lib.hid (L6x9.out.only HO10.out fun g hg => ⟨hg, fun e => hg.2 (e ▸ .inr rfl)⟩)
              have cpx10 : (w9.setCell ⟨w4.heap.size, 4, none⟩ (.int .i64 1)).cell? ⟨w.heap.size, 0, none⟩ = some (.pointer (some ⟨C.q, 0, none⟩)) := by simp only [World.cell?, bP10.out]; rfl
              go_wp2_with fail
              refine ((show BlockC C 1 (blockM C.T 64) from HB.out) (With (Also (Also S w.heap.size) w4.heap.size) (.slice A6 (strsV ps).length c6)) (d + 1 + 1 + 1 + 1 + 1) s9 _ P10.out).mono ?_
              intro e w11 h11
              generalize hr : blockM C.T 64 s9 = r at h11
              cases r with
              | no c i =>
                obtain rfl : R = .no c i := HR9.out.symm.trans (bd_no hr)
                clear hr
                obtain rfl := h11.1
                go_wp2
                exact ⟨rfl, bad_of h11 K10.out (fun _ h => .inl (.inl (.inl (h))))⟩
              | ok body s11 =>
                have HR11 := Lib.hid ((bd_ok hr).symm.trans HR9.out)
                clear hr HR9
                obtain ⟨v11, rfl, hl, hp, hk⟩ := h11
                obtain ⟨A11, c11, rfl⟩ : ∃ A c, v11 = .slice A (intsV body).length c := by obtain ⟨A, c, e, _⟩ := hl; exact ⟨A, _, e⟩
                have P11 := Lib.hid hp
                have K11 := Lib.hid (K10.out.trans (hk.sub (fun _ h => .inl (.inl (.inl (h))))))
                have bP11 := Lib.hid ((hk.kept _ (.inl (.inl (.inr rfl)))).trans bP10.out)
                have bL11 := Lib.hid ((hk.kept _ (.inl (.inr rfl))).trans bL10.out)
                have L6x11 := Lib.hid (L6x10.out.keep hk.below.size fun g hg hf _ => ⟨hf, hk.kept g (.inr hg)⟩)
                have L11x11 := Lib.hid hl
                clear hl hp hk
                have cp11 : w11.cell? ⟨w.heap.size, 0, none⟩ = some (.pointer (some ⟨C.q, 0, none⟩)) := by simp [World.cell?, bP11.out]
                have df0 : w11.frozen? ⟨w4.heap.size, 0, none⟩ = false := by simp [World.frozen?, bL11.out]
                have dc0 : w11.cell? ⟨w4.heap.size, 0, none⟩ = some (.string (bs name)) := by simp [World.cell?, bL11.out, fuV, bs]
                have df1 : w11.frozen? ⟨w4.heap.size, 1, none⟩ = false := by simp [World.frozen?, bL11.out]
                have dc1 : w11.cell? ⟨w4.heap.size, 1, none⟩ = some (.int .i64 0) := by simp [World.cell?, bL11.out, fuV, bs]
                have df2 : w11.frozen? ⟨w4.heap.size, 2, none⟩ = false := by simp [World.frozen?, bL11.out]
                have dc2 : w11.cell? ⟨w4.heap.size, 2, none⟩ = some (.int .i64 0) := by simp [World.cell?, bL11.out, fuV, bs]
                have df3 : w11.frozen? ⟨w4.heap.size, 3, none⟩ = false := by simp [World.frozen?, bL11.out]
                have dc3 : w11.cell? ⟨w4.heap.size, 3, none⟩ = some ((.slice A6 (strsV ps).length c6)) := by simp [World.cell?, bL11.out, fuV, bs]
                have df4 : w11.frozen? ⟨w4.heap.size, 4, none⟩ = false := by simp [World.frozen?, bL11.out]
                have dc4 : w11.cell? ⟨w4.heap.size, 4, none⟩ = some (.int .i64 1) := by simp [World.cell?, bL11.out, fuV, bs]
                have df5 : w11.frozen? ⟨w4.heap.size, 5, none⟩ = false := by simp [World.frozen?, bL11.out]
                have dc5 : w11.cell? ⟨w4.heap.size, 5, none⟩ = some (.slice none 0 0) := by simp [World.cell?, bL11.out, fuV, bs]
                have HO12 := Lib.hid ((Only.refl w4.heap.size w11).set 5 ((.slice A11 (intsV body).length c11)))
                have P12 := Lib.hid (P11.out.only HO12.out (.inl (.inl (.inr rfl))))
                have K12 := Lib.hid (K11.out.only HO12.out (by have := (P11.out.sLt _ (.inl (.inl (.inr rfl)))).1; omega) (fun e => by have h1 := (H.out.sLt _ e).2; have h2 := hlbw.out; omega))
                have ff12 : w11.frozen? ⟨w4.heap.size, 5, none⟩ = false := by simp [World.frozen?, bL11.out]
                have fc12 : w11.cell? ⟨w4.heap.size, 5, none⟩ = some (.slice none 0 0) := by simp [World.cell?, bL11.out, fuV, bs]
                have bP12 := Lib.hid ((HO12.out.block _ (by have h1 := hlbw.out; omega)).trans bP11.out)
                have bL12 := Lib.hid (setCell_at w11 w4.heap.size 5 ((.slice A11 (intsV body).length c11)) _ _ _ bL11.out)
                have L6x12 := Lib.hid (L6x11.out.only HO12.out fun g hg => ⟨hg, fun e => hg.2 (e ▸ .inr rfl)⟩)
                have L11x12 := Lib.hid (L11x11.out.only HO12.out fun g hg => ⟨hg, fun e => hg.2 (e ▸ .inl (.inr rfl))⟩)
                have cpx12 : (w11.setCell ⟨w4.heap.size, 5, none⟩ ((.slice A11 (intsV body).length c11))).cell? ⟨w.heap.size, 0, none⟩ = some (.pointer (some ⟨C.q, 0, none⟩)) := by simp only [World.cell?, bP12.out]; rfl
                have hsi := Lib.hid (since_calls C (With (With (Also (Also S w.heap.size) w4.heap.size) (.slice A6 (strsV ps).length c6)) (.slice A11 (intsV body).length c11)) (d + 1 + 1 + 1 + 1 + 1) s11 (lo : Int) _ P12.out)
                have hR9 : (Rs.ok () { s11 with fn := s11.fn ++ [{ name := name, lo := lo, hi := lastHi C.T s11, params := ps, ty := 1, body := body }] } : Rs Unit) = R := HR11.out
                generalize lastHi C.T s11 = hi' at hsi hR9
                have HRz := Lib.hid hR9
                clear hR9 HR11
                go_wp2_with fail
                refine (hsi.out).mono ?_
                rintro e w13 ⟨rfl, hB⟩
                have P13 := Lib.hid (P12.out.below hB)
                have K13 := Lib.hid (K12.out.trans ((P12.out.belowK hB).sub (fun _ h => .inl (.inl (.inl (.inl (h)))))))
                have bP13 := Lib.hid ((hB.block _ (blk_lt bP12.out)).trans bP12.out)
                have bL13 := Lib.hid ((hB.block _ (blk_lt bL12.out)).trans bL12.out)
                have L6x13 := Lib.hid (L6x12.out.keep hB.size fun g _ hf hlt => ⟨hf, hB.block g hlt⟩)
                have L11x13 := Lib.hid (L11x12.out.keep hB.size fun g _ hf hlt => ⟨hf, hB.block g hlt⟩)
                clear hB
                have cp13 : w13.cell? ⟨w.heap.size, 0, none⟩ = some (.pointer (some ⟨C.q, 0, none⟩)) := by simp [World.cell?, bP13.out]
                have ef0 : w13.frozen? ⟨w4.heap.size, 0, none⟩ = false := by simp [World.frozen?, bL13.out]
                have ec0 : w13.cell? ⟨w4.heap.size, 0, none⟩ = some (.string (bs name)) := by simp [World.cell?, bL13.out, fuV, bs]
                have ef1 : w13.frozen? ⟨w4.heap.size, 1, none⟩ = false := by simp [World.frozen?, bL13.out]
                have ec1 : w13.cell? ⟨w4.heap.size, 1, none⟩ = some (.int .i64 0) := by simp [World.cell?, bL13.out, fuV, bs]
                have ef2 : w13.frozen? ⟨w4.heap.size, 2, none⟩ = false := by simp [World.frozen?, bL13.out]
                have ec2 : w13.cell? ⟨w4.heap.size, 2, none⟩ = some (.int .i64 0) := by simp [World.cell?, bL13.out, fuV, bs]
                have ef3 : w13.frozen? ⟨w4.heap.size, 3, none⟩ = false := by simp [World.frozen?, bL13.out]
                have ec3 : w13.cell? ⟨w4.heap.size, 3, none⟩ = some ((.slice A6 (strsV ps).length c6)) := by simp [World.cell?, bL13.out, fuV, bs]
                have ef4 : w13.frozen? ⟨w4.heap.size, 4, none⟩ = false := by simp [World.frozen?, bL13.out]
                have ec4 : w13.cell? ⟨w4.heap.size, 4, none⟩ = some (.int .i64 1) := by simp [World.cell?, bL13.out, fuV, bs]
                have ef5 : w13.frozen? ⟨w4.heap.size, 5, none⟩ = false := by simp [World.frozen?, bL13.out]
                have ec5 : w13.cell? ⟨w4.heap.size, 5, none⟩ = some ((.slice A11 (intsV body).length c11)) := by simp [World.cell?, bL13.out, fuV, bs]
                have HP9 := Lib.hid (fun W (ho : Only w4.heap.size w13 W) => putF_calls C S d s11 ({ name := name, lo := lo, hi := hi', params := ps, ty := 1, body := body } : Fu) (.slice A6 (strsV ps).length c6) (.slice A11 (intsV body).length c11) W (((P13.out.only ho (.inl (.inl (.inr rfl)))).less (by omega)).sub (fun b hb => hb.imp (fun h => h.imp (fun h => .inl (.inl h)) id) id)) (L6x13.out.only ho fun g hg => ⟨⟨hg.1, fun e => hg.2 (.inl (.inl e))⟩, fun e => hg.2 (e ▸ .inr rfl)⟩) (L11x13.out.only ho fun g hg => ⟨⟨hg.1, fun e => hg.2 (.inl (.inl (.inl e)))⟩, fun e => hg.2 (e ▸ .inl (.inr rfl))⟩))
                have HK9 := Lib.hid (fun W (ho : Only w4.heap.size w13 W) => K13.out.only ho (by have := (P13.out.sLt _ (.inl (.inl (.inr rfl)))).1; omega) (fun e => by have h1 := (H.out.sLt _ e).2; have h2 := hlbw.out; omega))
                have HC9 := Lib.hid bP13.out
                go_wp2
                go_region_with (go_at_call 110; refine (HP9.out _ ((((Only.refl _ _).set 1 _).set 2 _).drew)).mono ?_; intro e w98 h98; obtain ⟨rfl, h3⟩ := h98; have H98 := Lib.hid h3; clear h3; unfold natV)
                all_goals
                  go_wp2
                  go_end0
                  obtain rfl : R = _ := HRz.out.symm
                  exact ⟨rfl, H98.out.1, (HK9.out _ ((((Only.refl _ _).set 1 _).set 2 _).drew)).trans H98.out.2⟩
  · rw [hb] at his
    cases hl : (s.fn.length == 32)
    · have HR1 := Lib.hid ((ifF (b := isP C.T [kFunc] s && s.fn.length == 32) (by rw [hb, hl]; rfl)).symm.trans HR.out)
      have hl2 : ((s.fn.length : Int) == 32) = false := by rw [beq_eq_false_iff_ne] at hl ⊢; omega
      clear hb hl HR
      go_wp2_with fail
      refine (his.out).mono ?_
      rintro e w1 ⟨rfl, hB⟩
      have P1 := Lib.hid (P0.out.below hB)
      have K1 := Lib.hid (K0.out.trans ((P0.out.belowK hB).sub (fun _ h => .inl (h))))
      have bP1 := Lib.hid ((hB.block _ (blk_lt bP0.out)).trans bP0.out)
      clear hB
      have cp1 : w1.cell? ⟨w.heap.size, 0, none⟩ = some (.pointer (some ⟨C.q, 0, none⟩)) := by simp [World.cell?, bP1.out]
      go_wp2_with fail
      refine (hln.out _ P1.out).mono ?_
      rintro e wx ⟨rfl, rfl⟩
      go_wp2_with fail
      refine (hfr.out _ P1.out).mono ?_
      rintro e w2 ⟨rfl, hB⟩
      have P2 := Lib.hid (P1.out.below hB)
      have K2 := Lib.hid (K1.out.trans ((P1.out.belowK hB).sub (fun _ h => .inl (h))))
      have bP2 := Lib.hid ((hB.block _ (blk_lt bP1.out)).trans bP1.out)
      clear hB
      have cp2 : w2.cell? ⟨w.heap.size, 0, none⟩ = some (.pointer (some ⟨C.q, 0, none⟩)) := by simp [World.cell?, bP2.out]
      go_wp2_with fail
      refine (takeL_calls C (Also S w.heap.size) d s [kFunc] _ rfl 1 rfl (by decide) (by decide) w2 P2.out _ rfl).mono ?_
      intro e w3 h3
      generalize hr : takeP C.T [kFunc] s = r at h3
      cases r with
      | no c i =>
        obtain rfl : R = .no c i := HR1.out.symm.trans (bd_no hr)
        clear hr
        obtain rfl := h3.1
        go_wp2
        exact ⟨rfl, bad_of h3 K2.out (fun _ h => .inl (h))⟩
      | ok o s3 =>
        have HR3 := Lib.hid ((bd_ok hr).symm.trans HR1.out)
        clear hr HR1
        obtain ⟨rfl, hp, hk⟩ := h3
        have P3 := Lib.hid hp
        have K3 := Lib.hid (K2.out.trans (hk.sub (fun _ h => .inl (h))))
        have bP3 := Lib.hid ((hk.kept _ (.inr rfl)).trans bP2.out)
        clear hp hk
        unfold strV
        have cp3 : w3.cell? ⟨w.heap.size, 0, none⟩ = some (.pointer (some ⟨C.q, 0, none⟩)) := by simp [World.cell?, bP3.out]
        go_wp2_with fail
        refine (takeA_calls C (Also S w.heap.size) (d + 1) s3 1 (by decide) w3 P3.out).mono ?_
        intro e w4 h4
        generalize hr : takeK C.T 1 s3 = r at h4
        cases r with
        | no c i =>
          obtain rfl : R = .no c i := HR3.out.symm.trans (bd_no hr)
          clear hr
          obtain rfl := h4.1
          go_wp2
          exact ⟨rfl, bad_of h4 K3.out (fun _ h => .inl (h))⟩
        | ok name s4 =>
          have HR4 := Lib.hid ((bd_ok hr).symm.trans HR3.out)
          clear hr HR3
          obtain ⟨rfl, hp, hk⟩ := h4
          have P4 := Lib.hid hp
          have K4 := Lib.hid (K3.out.trans (hk.sub (fun _ h => .inl (h))))
          have bP4 := Lib.hid ((hk.kept _ (.inr rfl)).trans bP3.out)
          clear hp hk
          unfold strV
          have cp4 : w4.cell? ⟨w.heap.size, 0, none⟩ = some (.pointer (some ⟨C.q, 0, none⟩)) := by simp [World.cell?, bP4.out]
          have hlbw : Hid (w.heap.size < w4.heap.size) := Lib.hid (blk_lt bP4.out)
          go_wp2_with (refine wpList_store_whole rfl 69 (.tmp 3) (.tmp 23) rfl w4.heap.size #[.string ⟨#[]⟩, .int .i64 0, .int .i64 0, .slice none 0 0, .int .i64 0, .slice none 0 0] (fuV ({ name := name, params := [], ty := 4, body := [] } : Fu) (.slice none 0 0) (.slice none 0 0)).toArray 69 (heap_one w4 _ _) rfl rfl rfl Tryz.sizeFu (all_oneCell_toArray (oneF ({ name := name, params := [], ty := 4, body := [] } : Fu) (.slice none 0 0) (.slice none 0 0) rfl rfl)) ?_; intro w5 ho5 hb5; have HO5 := Lib.hid ho5; have bL5 := Lib.hid hb5; have bPi5 := Lib.hid ((ho5.block _ (Nat.ne_of_lt hlbw.out)).trans ((Below.heap_alloc _ _ _ (blk_lt bP4.out)).trans bP4.out)); have cpi5 : w5.cell? ⟨w.heap.size, 0, none⟩ = some (.pointer (some ⟨C.q, 0, none⟩)) := (by simp [World.cell?, bPi5.out]); clear ho5 hb5)
          have P5 := Lib.hid ((P4.out.allocA (.cells #[.string ⟨#[]⟩, .int .i64 0, .int .i64 0, .slice none 0 0, .int .i64 0, .slice none 0 0] 69)).only HO5.out (.inr rfl))
          have K5 := Lib.hid ((K4.out.trans ((Keep.alloc P4.out (.cells #[.string ⟨#[]⟩, .int .i64 0, .int .i64 0, .slice none 0 0, .int .i64 0, .slice none 0 0] 69)).sub (fun _ h => .inl (h)))).only HO5.out (by have := P4.out.qlt; omega) (fun e => by have h1 := (H.out.sLt _ e).2; have h2 := K4.out.below.size; omega))
          have bP5 := Lib.hid ((HO5.out.block _ (by have := blk_lt bP4.out; omega)).trans ((Below.heap_alloc _ _ _ (blk_lt bP4.out)).trans bP4.out))
          have cp5 : w5.cell? ⟨w.heap.size, 0, none⟩ = some (.pointer (some ⟨C.q, 0, none⟩)) := by simp [World.cell?, bP5.out]
          go_wp2_with fail
          refine (listT_calls C (Also (Also S w.heap.size) w4.heap.size) (d + 1 + 1) s4 107 #[.pointer (some ⟨w.heap.size, 0, none⟩)] (takeK C.T 1) w5 P5.out ⟨fun args w => by simp [go_sem], fun S' d' s' w' hS hk h' => (fun1_calls C S' d' s' w.heap.size w' ((World.cell?_of_block (a := ⟨w.heap.size, 0, none⟩) (hk.kept _ (.inl (.inr rfl)))).trans cp5) h').mono fun _ _ hh => hh.less (Nat.le_succ _)⟩ (fine_takeK P5.out.tk (by decide))).mono ?_
          intro e w6 h6
          generalize hr : listM C.T (takeK C.T 1) s4 = r at h6
          cases r with
          | no c i =>
            obtain rfl : R = .no c i := HR4.out.symm.trans (bd_no hr)
            clear hr
            obtain rfl := h6.1
            go_wp2
            exact ⟨rfl, bad_of h6 K5.out (fun _ h => .inl (.inl (h)))⟩
          | ok ps s6 =>
            have HR6 := Lib.hid ((bd_ok hr).symm.trans HR4.out)
            clear hr HR4
            obtain ⟨v6, rfl, hl, hp, hk⟩ := h6
            obtain ⟨A6, c6, rfl⟩ : ∃ A c, v6 = .slice A (strsV ps).length c := by obtain ⟨A, c, e, _⟩ := hl; exact ⟨A, _, e⟩
            have P6 := Lib.hid hp
            have K6 := Lib.hid (K5.out.trans (hk.sub (fun _ h => .inl (.inl (h)))))
            have bP6 := Lib.hid ((hk.kept _ (.inl (.inr rfl))).trans bP5.out)
            have bL6 := Lib.hid ((hk.kept _ (.inr rfl)).trans bL5.out)
            have L6x6 := Lib.hid hl
            clear hl hp hk
            have cp6 : w6.cell? ⟨w.heap.size, 0, none⟩ = some (.pointer (some ⟨C.q, 0, none⟩)) := by simp [World.cell?, bP6.out]
            have af0 : w6.frozen? ⟨w4.heap.size, 0, none⟩ = false := by simp [World.frozen?, bL6.out]
            have ac0 : w6.cell? ⟨w4.heap.size, 0, none⟩ = some (.string (bs name)) := by simp [World.cell?, bL6.out, fuV, bs]
            have af1 : w6.frozen? ⟨w4.heap.size, 1, none⟩ = false := by simp [World.frozen?, bL6.out]
            have ac1 : w6.cell? ⟨w4.heap.size, 1, none⟩ = some (.int .i64 0) := by simp [World.cell?, bL6.out, fuV, bs]
            have af2 : w6.frozen? ⟨w4.heap.size, 2, none⟩ = false := by simp [World.frozen?, bL6.out]
            have ac2 : w6.cell? ⟨w4.heap.size, 2, none⟩ = some (.int .i64 0) := by simp [World.cell?, bL6.out, fuV, bs]
            have af3 : w6.frozen? ⟨w4.heap.size, 3, none⟩ = false := by simp [World.frozen?, bL6.out]
            have ac3 : w6.cell? ⟨w4.heap.size, 3, none⟩ = some (.slice none 0 0) := by simp [World.cell?, bL6.out, fuV, bs]
            have af4 : w6.frozen? ⟨w4.heap.size, 4, none⟩ = false := by simp [World.frozen?, bL6.out]
            have ac4 : w6.cell? ⟨w4.heap.size, 4, none⟩ = some (.int .i64 4) := by simp [World.cell?, bL6.out, fuV, bs]
            have af5 : w6.frozen? ⟨w4.heap.size, 5, none⟩ = false := by simp [World.frozen?, bL6.out]
            have ac5 : w6.cell? ⟨w4.heap.size, 5, none⟩ = some (.slice none 0 0) := by simp [World.cell?, bL6.out, fuV, bs]
            have HO7 := Lib.hid ((Only.refl w4.heap.size w6).set 3 ((.slice A6 (strsV ps).length c6)))
            have P7 := Lib.hid (P6.out.only HO7.out (.inl (.inr rfl)))
            have K7 := Lib.hid (K6.out.only HO7.out (by have := (P6.out.sLt _ (.inl (.inr rfl))).1; omega) (fun e => by have h1 := (H.out.sLt _ e).2; have h2 := hlbw.out; omega))
            have ff7 : w6.frozen? ⟨w4.heap.size, 3, none⟩ = false := by simp [World.frozen?, bL6.out]
            have fc7 : w6.cell? ⟨w4.heap.size, 3, none⟩ = some (.slice none 0 0) := by simp [World.cell?, bL6.out, fuV, bs]
            have bP7 := Lib.hid ((HO7.out.block _ (by have h1 := hlbw.out; omega)).trans bP6.out)
            have bL7 := Lib.hid (setCell_at w6 w4.heap.size 3 ((.slice A6 (strsV ps).length c6)) _ _ _ bL6.out)
            have L6x7 := Lib.hid (L6x6.out.only HO7.out fun g hg => ⟨hg, fun e => hg.2 (e ▸ .inr rfl)⟩)
            have cpx7 : (w6.setCell ⟨w4.heap.size, 3, none⟩ ((.slice A6 (strsV ps).length c6))).cell? ⟨w.heap.size, 0, none⟩ = some (.pointer (some ⟨C.q, 0, none⟩)) := by simp only [World.cell?, bP7.out]; rfl
            obtain ⟨X, hX⟩ : ∃ X : Ps Nat, X = (fun s1 => if isP C.T [kInt] s1 then bd (takeP C.T [kInt]) (fun _ => okP 1) s1 else .ok 4 s1) := ⟨_, rfl⟩
            have HRX : Hid (bd X (fun ty => bd (blockM C.T 64) fun body => putF C.T lo { name := name, params := ps, ty := ty, body := body }) s6 = R) := Lib.hid (hX ▸ HR6.out)
            clear HR6
            have hi := Lib.hid (isL_calls C (With (Also (Also S w.heap.size) w4.heap.size) (.slice A6 (strsV ps).length c6)) (d + 1 + 1 + 1 + 1) s6 [kInt] _ rfl 1 rfl (by decide) (w6.setCell ⟨w4.heap.size, 3, none⟩ ((.slice A6 (strsV ps).length c6))) P7.out (w6.heap.size) (by simp [World.setCell]))
            cases hb : isP C.T [kInt] s6
            · rw [hb] at hi
              have HRt := Lib.hid ((bd_ok (x := X) (show X s6 = .ok 4 s6 by rw [hX]; exact ifF hb)).symm.trans HRX.out)
              clear hb HRX hX
              go_wp2_with fail
              refine (hi.out).mono ?_
              rintro e w8 ⟨rfl, hB⟩
              have P8 := Lib.hid (P7.out.below hB)
              have K8 := Lib.hid (K7.out.trans ((P7.out.belowK hB).sub (fun _ h => .inl (.inl (.inl (h))))))
              have bP8 := Lib.hid ((hB.block _ (blk_lt bP7.out)).trans bP7.out)
              have bL8 := Lib.hid ((hB.block _ (blk_lt bL7.out)).trans bL7.out)
              have L6x8 := Lib.hid (L6x7.out.keep hB.size fun g _ hf hlt => ⟨hf, hB.block g hlt⟩)
              clear hB
              have cp8 : w8.cell? ⟨w.heap.size, 0, none⟩ = some (.pointer (some ⟨C.q, 0, none⟩)) := by simp [World.cell?, bP8.out]
              go_wp2_with fail
              refine ((show BlockC C 1 (blockM C.T 64) from HB.out) (With (Also (Also S w.heap.size) w4.heap.size) (.slice A6 (strsV ps).length c6)) (d + 1 + 1 + 1 + 1) s6 _ P8.out).mono ?_
              intro e w9 h9
              generalize hr : blockM C.T 64 s6 = r at h9
              cases r with
              | no c i =>
                obtain rfl : R = .no c i := HRt.out.symm.trans (bd_no hr)
                clear hr
                obtain rfl := h9.1
                go_wp2
                exact ⟨rfl, bad_of h9 K8.out (fun _ h => .inl (.inl (.inl (h))))⟩
              | ok body s9 =>
                have HR9 := Lib.hid ((bd_ok hr).symm.trans HRt.out)
                clear hr HRt
                obtain ⟨v9, rfl, hl, hp, hk⟩ := h9
                obtain ⟨A9, c9, rfl⟩ : ∃ A c, v9 = .slice A (intsV body).length c := by obtain ⟨A, c, e, _⟩ := hl; exact ⟨A, _, e⟩
                have P9 := Lib.hid hp
                have K9 := Lib.hid (K8.out.trans (hk.sub (fun _ h => .inl (.inl (.inl (h))))))
                have bP9 := Lib.hid ((hk.kept _ (.inl (.inl (.inr rfl)))).trans bP8.out)
                have bL9 := Lib.hid ((hk.kept _ (.inl (.inr rfl))).trans bL8.out)
                have L6x9 := Lib.hid (L6x8.out.keep hk.below.size fun g hg hf _ => ⟨hf, hk.kept g (.inr hg)⟩)
                have L9x9 := Lib.hid hl
                clear hl hp hk
                have cp9 : w9.cell? ⟨w.heap.size, 0, none⟩ = some (.pointer (some ⟨C.q, 0, none⟩)) := by simp [World.cell?, bP9.out]
                have df0 : w9.frozen? ⟨w4.heap.size, 0, none⟩ = false := by simp [World.frozen?, bL9.out]
                have dc0 : w9.cell? ⟨w4.heap.size, 0, none⟩ = some (.string (bs name)) := by simp [World.cell?, bL9.out, fuV, bs]
                have df1 : w9.frozen? ⟨w4.heap.size, 1, none⟩ = false := by simp [World.frozen?, bL9.out]
                have dc1 : w9.cell? ⟨w4.heap.size, 1, none⟩ = some (.int .i64 0) := by simp [World.cell?, bL9.out, fuV, bs]
                have df2 : w9.frozen? ⟨w4.heap.size, 2, none⟩ = false := by simp [World.frozen?, bL9.out]
                have dc2 : w9.cell? ⟨w4.heap.size, 2, none⟩ = some (.int .i64 0) := by simp [World.cell?, bL9.out, fuV, bs]
                have df3 : w9.frozen? ⟨w4.heap.size, 3, none⟩ = false := by simp [World.frozen?, bL9.out]
                have dc3 : w9.cell? ⟨w4.heap.size, 3, none⟩ = some ((.slice A6 (strsV ps).length c6)) := by simp [World.cell?, bL9.out, fuV, bs]
                have df4 : w9.frozen? ⟨w4.heap.size, 4, none⟩ = false := by simp [World.frozen?, bL9.out]
                have dc4 : w9.cell? ⟨w4.heap.size, 4, none⟩ = some (.int .i64 4) := by simp [World.cell?, bL9.out, fuV, bs]
                have df5 : w9.frozen? ⟨w4.heap.size, 5, none⟩ = false := by simp [World.frozen?, bL9.out]
                have dc5 : w9.cell? ⟨w4.heap.size, 5, none⟩ = some (.slice none 0 0) := by simp [World.cell?, bL9.out, fuV, bs]
                have HO10 := Lib.hid ((Only.refl w4.heap.size w9).set 5 ((.slice A9 (intsV body).length c9)))
                have P10 := Lib.hid (P9.out.only HO10.out (.inl (.inl (.inr rfl))))
                have K10 := Lib.hid (K9.out.only HO10.out (by have := (P9.out.sLt _ (.inl (.inl (.inr rfl)))).1; omega) (fun e => by have h1 := (H.out.sLt _ e).2; have h2 := hlbw.out; omega))
                have ff10 : w9.frozen? ⟨w4.heap.size, 5, none⟩ = false := by simp [World.frozen?, bL9.out]
                have fc10 : w9.cell? ⟨w4.heap.size, 5, none⟩ = some (.slice none 0 0) := by simp [World.cell?, bL9.out, fuV, bs]
                have bP10 := Lib.hid ((HO10.out.block _ (by have h1 := hlbw.out; omega)).trans bP9.out)
                have bL10 := Lib.hid (setCell_at w9 w4.heap.size 5 ((.slice A9 (intsV body).length c9)) _ _ _ bL9.out)
                have L6x10 := Lib.hid (L6x9.out.only HO10.out fun g hg => ⟨hg, fun e => hg.2 (e ▸ .inr rfl)⟩)
                have L9x10 := Lib.hid (L9x9.out.only HO10.out fun g hg => ⟨hg, fun e => hg.2 (e ▸ .inl (.inr rfl))⟩)
                have cpx10 : (w9.setCell ⟨w4.heap.size, 5, none⟩ ((.slice A9 (intsV body).length c9))).cell? ⟨w.heap.size, 0, none⟩ = some (.pointer (some ⟨C.q, 0, none⟩)) := by simp only [World.cell?, bP10.out]; rfl
                have hsi := Lib.hid (since_calls C (With (With (Also (Also S w.heap.size) w4.heap.size) (.slice A6 (strsV ps).length c6)) (.slice A9 (intsV body).length c9)) (d + 1 + 1 + 1 + 1) s9 (lo : Int) _ P10.out)
                have hR9 : (Rs.ok () { s9 with fn := s9.fn ++ [{ name := name, lo := lo, hi := lastHi C.T s9, params := ps, ty := 4, body := body }] } : Rs Unit) = R := HR9.out
                generalize lastHi C.T s9 = hi' at hsi hR9
                have HRz := Lib.hid hR9
                clear hR9 HR9
                go_wp2_with fail
                refine (hsi.out).mono ?_
                rintro e w11 ⟨rfl, hB⟩
                have P11 := Lib.hid (P10.out.below hB)
                have K11 := Lib.hid (K10.out.trans ((P10.out.belowK hB).sub (fun _ h => .inl (.inl (.inl (.inl (h)))))))
                have bP11 := Lib.hid ((hB.block _ (blk_lt bP10.out)).trans bP10.out)
                have bL11 := Lib.hid ((hB.block _ (blk_lt bL10.out)).trans bL10.out)
                have L6x11 := Lib.hid (L6x10.out.keep hB.size fun g _ hf hlt => ⟨hf, hB.block g hlt⟩)
                have L9x11 := Lib.hid (L9x10.out.keep hB.size fun g _ hf hlt => ⟨hf, hB.block g hlt⟩)
                clear hB
                have cp11 : w11.cell? ⟨w.heap.size, 0, none⟩ = some (.pointer (some ⟨C.q, 0, none⟩)) := by simp [World.cell?, bP11.out]
                have ef0 : w11.frozen? ⟨w4.heap.size, 0, none⟩ = false := by simp [World.frozen?, bL11.out]
                have ec0 : w11.cell? ⟨w4.heap.size, 0, none⟩ = some (.string (bs name)) := by simp [World.cell?, bL11.out, fuV, bs]
                have ef1 : w11.frozen? ⟨w4.heap.size, 1, none⟩ = false := by simp [World.frozen?, bL11.out]
                have ec1 : w11.cell? ⟨w4.heap.size, 1, none⟩ = some (.int .i64 0) := by simp [World.cell?, bL11.out, fuV, bs]
                have ef2 : w11.frozen? ⟨w4.heap.size, 2, none⟩ = false := by simp [World.frozen?, bL11.out]
                have ec2 : w11.cell? ⟨w4.heap.size, 2, none⟩ = some (.int .i64 0) := by simp [World.cell?, bL11.out, fuV, bs]
                have ef3 : w11.frozen? ⟨w4.heap.size, 3, none⟩ = false := by simp [World.frozen?, bL11.out]
                have ec3 : w11.cell? ⟨w4.heap.size, 3, none⟩ = some ((.slice A6 (strsV ps).length c6)) := by simp [World.cell?, bL11.out, fuV, bs]
                have ef4 : w11.frozen? ⟨w4.heap.size, 4, none⟩ = false := by simp [World.frozen?, bL11.out]
                have ec4 : w11.cell? ⟨w4.heap.size, 4, none⟩ = some (.int .i64 4) := by simp [World.cell?, bL11.out, fuV, bs]
                have ef5 : w11.frozen? ⟨w4.heap.size, 5, none⟩ = false := by simp [World.frozen?, bL11.out]
                have ec5 : w11.cell? ⟨w4.heap.size, 5, none⟩ = some ((.slice A9 (intsV body).length c9)) := by simp [World.cell?, bL11.out, fuV, bs]
                have HP9 := Lib.hid (fun W (ho : Only w4.heap.size w11 W) => putF_calls C S d s9 ({ name := name, lo := lo, hi := hi', params := ps, ty := 4, body := body } : Fu) (.slice A6 (strsV ps).length c6) (.slice A9 (intsV body).length c9) W (((P11.out.only ho (.inl (.inl (.inr rfl)))).less (by omega)).sub (fun b hb => hb.imp (fun h => h.imp (fun h => .inl (.inl h)) id) id)) (L6x11.out.only ho fun g hg => ⟨⟨hg.1, fun e => hg.2 (.inl (.inl e))⟩, fun e => hg.2 (e ▸ .inr rfl)⟩) (L9x11.out.only ho fun g hg => ⟨⟨hg.1, fun e => hg.2 (.inl (.inl (.inl e)))⟩, fun e => hg.2 (e ▸ .inl (.inr rfl))⟩))
                have HK9 := Lib.hid (fun W (ho : Only w4.heap.size w11 W) => K11.out.only ho (by have := (P11.out.sLt _ (.inl (.inl (.inr rfl)))).1; omega) (fun e => by have h1 := (H.out.sLt _ e).2; have h2 := hlbw.out; omega))
                have HC9 := Lib.hid bP11.out
                go_wp2
                go_region_with (go_at_call 110; refine (HP9.out _ ((((Only.refl _ _).set 1 _).set 2 _).drew)).mono ?_; intro e w98 h98; obtain ⟨rfl, h3⟩ := h98; have H98 := Lib.hid h3; clear h3; unfold natV)
                all_goals
                  go_wp2
                  go_end0
                  obtain rfl : R = _ := HRz.out.symm
                  exact ⟨rfl, H98.out.1, (HK9.out _ ((((Only.refl _ _).set 1 _).set 2 _).drew)).trans H98.out.2⟩
            · rw [hb] at hi
              have HRt : Hid (bd (takeP C.T [kInt]) (fun _ s' => (bd (blockM C.T 64) fun body => putF C.T lo { name := name, params := ps, ty := 1, body := body }) s') s6 = R) := Lib.hid (by
                  have h1 := HRX.out
                  have h2 : X s6 = bd (takeP C.T [kInt]) (fun _ => okP 1) s6 := by rw [hX]; exact ifT hb
                  rw [← h1]
                  unfold bd at h2 ⊢
                  rw [h2]
                  cases takeP C.T [kInt] s6 <;> rfl)
              clear hb HRX hX
              go_wp2_with fail
              refine (hi.out).mono ?_
              rintro e w8 ⟨rfl, hB⟩
              have P8 := Lib.hid (P7.out.below hB)
              have K8 := Lib.hid (K7.out.trans ((P7.out.belowK hB).sub (fun _ h => .inl (.inl (.inl (h))))))
              have bP8 := Lib.hid ((hB.block _ (blk_lt bP7.out)).trans bP7.out)
              have bL8 := Lib.hid ((hB.block _ (blk_lt bL7.out)).trans bL7.out)
              have L6x8 := Lib.hid (L6x7.out.keep hB.size fun g _ hf hlt => ⟨hf, hB.block g hlt⟩)
              clear hB
              have cp8 : w8.cell? ⟨w.heap.size, 0, none⟩ = some (.pointer (some ⟨C.q, 0, none⟩)) := by simp [World.cell?, bP8.out]
              go_wp2_with fail
              refine (takeL_calls C (With (Also (Also S w.heap.size) w4.heap.size) (.slice A6 (strsV ps).length c6)) (d + 1 + 1 + 1 + 1) s6 [kInt] _ rfl 1 rfl (by decide) (by decide) w8 P8.out _ rfl).mono ?_
              intro e w9 h9
              generalize hr : takeP C.T [kInt] s6 = r at h9
              cases r with
              | no c i =>
                obtain rfl : R = .no c i := HRt.out.symm.trans (bd_no hr)
                clear hr
                obtain rfl := h9.1
                go_wp2
                exact ⟨rfl, bad_of h9 K8.out (fun _ h => .inl (.inl (.inl (h))))⟩
              | ok o2 s9 =>
                have HR9 := Lib.hid ((bd_ok hr).symm.trans HRt.out)
                clear hr HRt
                obtain ⟨rfl, hp, hk⟩ := h9
                have P9 := Lib.hid hp
                have K9 := Lib.hid (K8.out.trans (hk.sub (fun _ h => .inl (.inl (.inl (h))))))
                have bP9 := Lib.hid ((hk.kept _ (.inl (.inl (.inr rfl)))).trans bP8.out)
                have bL9 := Lib.hid ((hk.kept _ (.inl (.inr rfl))).trans bL8.out)
                have L6x9 := Lib.hid (L6x8.out.keep hk.below.size fun g hg hf _ => ⟨hf, hk.kept g (.inr hg)⟩)
                clear hp hk
                unfold strV
                have cp9 : w9.cell? ⟨w.heap.size, 0, none⟩ = some (.pointer (some ⟨C.q, 0, none⟩)) := by simp [World.cell?, bP9.out]
                have bf0 : w9.frozen? ⟨w4.heap.size, 0, none⟩ = false := by simp [World.frozen?, bL9.out]
                have bc0 : w9.cell? ⟨w4.heap.size, 0, none⟩ = some (.string (bs name)) := by simp [World.cell?, bL9.out, fuV, bs]
                have bf1 : w9.frozen? ⟨w4.heap.size, 1, none⟩ = false := by simp [World.frozen?, bL9.out]
                have bc1 : w9.cell? ⟨w4.heap.size, 1, none⟩ = some (.int .i64 0) := by simp [World.cell?, bL9.out, fuV, bs]
                have bf2 : w9.frozen? ⟨w4.heap.size, 2, none⟩ = false := by simp [World.frozen?, bL9.out]
                have bc2 : w9.cell? ⟨w4.heap.size, 2, none⟩ = some (.int .i64 0) := by simp [World.cell?, bL9.out, fuV, bs]
                have bf3 : w9.frozen? ⟨w4.heap.size, 3, none⟩ = false := by simp [World.frozen?, bL9.out]
                have bc3 : w9.cell? ⟨w4.heap.size, 3, none⟩ = some ((.slice A6 (strsV ps).length c6)) := by simp [World.cell?, bL9.out, fuV, bs]
                have bf4 : w9.frozen? ⟨w4.heap.size, 4, none⟩ = false := by simp [World.frozen?, bL9.out]
                have bc4 : w9.cell? ⟨w4.heap.size, 4, none⟩ = some (.int .i64 4) := by simp [World.cell?, bL9.out, fuV, bs]
                have bf5 : w9.frozen? ⟨w4.heap.size, 5, none⟩ = false := by simp [World.frozen?, bL9.out]
                have bc5 : w9.cell? ⟨w4.heap.size, 5, none⟩ = some (.slice none 0 0) := by simp [World.cell?, bL9.out, fuV, bs]
                have HO10 := Lib.hid ((Only.refl w4.heap.size w9).set 4 (.int .i64 1))
                have P10 := Lib.hid (P9.out.only HO10.out (.inl (.inr rfl)))
                have K10 := Lib.hid (K9.out.only HO10.out (by have := (P9.out.sLt _ (.inl (.inr rfl))).1; omega) (fun e => by have h1 := (H.out.sLt _ e).2; have h2 := hlbw.out; omega))
                have ff10 : w9.frozen? ⟨w4.heap.size, 4, none⟩ = false := by simp [World.frozen?, bL9.out]
                have fc10 : w9.cell? ⟨w4.heap.size, 4, none⟩ = some (.int .i64 4) := by simp [World.cell?, bL9.out, fuV, bs]
                have bP10 := Lib.hid ((HO10.out.block _ (by have h1 := hlbw.out; omega)).trans bP9.out)
                have bL10 := Lib.hid (setCell_at w9 w4.heap.size 4 (.int .i64 1) _ _ _ bL9.out)
                have L6x10 := Lib.hid (L6x9.out.only HO10.out fun g hg => ⟨hg, fun e => hg.2 (e ▸ .inr rfl)⟩)
                have cpx10 : (w9.setCell ⟨w4.heap.size, 4, none⟩ (.int .i64 1)).cell? ⟨w.heap.size, 0, none⟩ = some (.pointer (some ⟨C.q, 0, none⟩)) := by simp only [World.cell?, bP10.out]; rfl
                go_wp2_with fail
                refine ((show BlockC C 1 (blockM C.T 64) from HB.out) (With (Also (Also S w.heap.size) w4.heap.size) (.slice A6 (strsV ps).length c6)) (d + 1 + 1 + 1 + 1 + 1) s9 _ P10.out).mono ?_
                intro e w11 h11
                generalize hr : blockM C.T 64 s9 = r at h11
                cases r with
                | no c i =>
                  obtain rfl : R = .no c i := HR9.out.symm.trans (bd_no hr)
                  clear hr
                  obtain rfl := h11.1
                  go_wp2
                  exact ⟨rfl, bad_of h11 K10.out (fun _ h => .inl (.inl (.inl (h))))⟩
                | ok body s11 =>
                  have HR11 := Lib.hid ((bd_ok hr).symm.trans HR9.out)
                  clear hr HR9
                  obtain ⟨v11, rfl, hl, hp, hk⟩ := h11
                  obtain ⟨A11, c11, rfl⟩ : ∃ A c, v11 = .slice A (intsV body).length c := by obtain ⟨A, c, e, _⟩ := hl; exact ⟨A, _, e⟩
                  have P11 := Lib.hid hp
                  have K11 := Lib.hid (K10.out.trans (hk.sub (fun _ h => .inl (.inl (.inl (h))))))
                  have bP11 := Lib.hid ((hk.kept _ (.inl (.inl (.inr rfl)))).trans bP10.out)
                  have bL11 := Lib.hid ((hk.kept _ (.inl (.inr rfl))).trans bL10.out)
                  have L6x11 := Lib.hid (L6x10.out.keep hk.below.size fun g hg hf _ => ⟨hf, hk.kept g (.inr hg)⟩)
                  have L11x11 := Lib.hid hl
                  clear hl hp hk
                  have cp11 : w11.cell? ⟨w.heap.size, 0, none⟩ = some (.pointer (some ⟨C.q, 0, none⟩)) := by simp [World.cell?, bP11.out]
                  have df0 : w11.frozen? ⟨w4.heap.size, 0, none⟩ = false := by simp [World.frozen?, bL11.out]
                  have dc0 : w11.cell? ⟨w4.heap.size, 0, none⟩ = some (.string (bs name)) := by simp [World.cell?, bL11.out, fuV, bs]
                  have df1 : w11.frozen? ⟨w4.heap.size, 1, none⟩ = false := by simp [World.frozen?, bL11.out]
                  have dc1 : w11.cell? ⟨w4.heap.size, 1, none⟩ = some (.int .i64 0) := by simp [World.cell?, bL11.out, fuV, bs]
                  have df2 : w11.frozen? ⟨w4.heap.size, 2, none⟩ = false := by simp [World.frozen?, bL11.out]
                  have dc2 : w11.cell? ⟨w4.heap.size, 2, none⟩ = some (.int .i64 0) := by simp [World.cell?, bL11.out, fuV, bs]
                  have df3 : w11.frozen? ⟨w4.heap.size, 3, none⟩ = false := by simp [World.frozen?, bL11.out]
                  have dc3 : w11.cell? ⟨w4.heap.size, 3, none⟩ = some ((.slice A6 (strsV ps).length c6)) := by simp [World.cell?, bL11.out, fuV, bs]
                  have df4 : w11.frozen? ⟨w4.heap.size, 4, none⟩ = false := by simp [World.frozen?, bL11.out]
                  have dc4 : w11.cell? ⟨w4.heap.size, 4, none⟩ = some (.int .i64 1) := by simp [World.cell?, bL11.out, fuV, bs]
                  have df5 : w11.frozen? ⟨w4.heap.size, 5, none⟩ = false := by simp [World.frozen?, bL11.out]
                  have dc5 : w11.cell? ⟨w4.heap.size, 5, none⟩ = some (.slice none 0 0) := by simp [World.cell?, bL11.out, fuV, bs]
                  have HO12 := Lib.hid ((Only.refl w4.heap.size w11).set 5 ((.slice A11 (intsV body).length c11)))
                  have P12 := Lib.hid (P11.out.only HO12.out (.inl (.inl (.inr rfl))))
                  have K12 := Lib.hid (K11.out.only HO12.out (by have := (P11.out.sLt _ (.inl (.inl (.inr rfl)))).1; omega) (fun e => by have h1 := (H.out.sLt _ e).2; have h2 := hlbw.out; omega))
                  have ff12 : w11.frozen? ⟨w4.heap.size, 5, none⟩ = false := by simp [World.frozen?, bL11.out]
                  have fc12 : w11.cell? ⟨w4.heap.size, 5, none⟩ = some (.slice none 0 0) := by simp [World.cell?, bL11.out, fuV, bs]
                  have bP12 := Lib.hid ((HO12.out.block _ (by have h1 := hlbw.out; omega)).trans bP11.out)
                  have bL12 := Lib.hid (setCell_at w11 w4.heap.size 5 ((.slice A11 (intsV body).length c11)) _ _ _ bL11.out)
                  have L6x12 := Lib.hid (L6x11.out.only HO12.out fun g hg => ⟨hg, fun e => hg.2 (e ▸ .inr rfl)⟩)
                  have L11x12 := Lib.hid (L11x11.out.only HO12.out fun g hg => ⟨hg, fun e => hg.2 (e ▸ .inl (.inr rfl))⟩)
                  have cpx12 : (w11.setCell ⟨w4.heap.size, 5, none⟩ ((.slice A11 (intsV body).length c11))).cell? ⟨w.heap.size, 0, none⟩ = some (.pointer (some ⟨C.q, 0, none⟩)) := by simp only [World.cell?, bP12.out]; rfl
                  have hsi := Lib.hid (since_calls C (With (With (Also (Also S w.heap.size) w4.heap.size) (.slice A6 (strsV ps).length c6)) (.slice A11 (intsV body).length c11)) (d + 1 + 1 + 1 + 1 + 1) s11 (lo : Int) _ P12.out)
                  have hR9 : (Rs.ok () { s11 with fn := s11.fn ++ [{ name := name, lo := lo, hi := lastHi C.T s11, params := ps, ty := 1, body := body }] } : Rs Unit) = R := HR11.out
                  generalize lastHi C.T s11 = hi' at hsi hR9
                  have HRz := Lib.hid hR9
                  clear hR9 HR11
                  go_wp2_with fail
                  refine (hsi.out).mono ?_
                  rintro e w13 ⟨rfl, hB⟩
                  have P13 := Lib.hid (P12.out.below hB)
                  have K13 := Lib.hid (K12.out.trans ((P12.out.belowK hB).sub (fun _ h => .inl (.inl (.inl (.inl (h)))))))
                  have bP13 := Lib.hid ((hB.block _ (blk_lt bP12.out)).trans bP12.out)
                  have bL13 := Lib.hid ((hB.block _ (blk_lt bL12.out)).trans bL12.out)
                  have L6x13 := Lib.hid (L6x12.out.keep hB.size fun g _ hf hlt => ⟨hf, hB.block g hlt⟩)
                  have L11x13 := Lib.hid (L11x12.out.keep hB.size fun g _ hf hlt => ⟨hf, hB.block g hlt⟩)
                  clear hB
                  have cp13 : w13.cell? ⟨w.heap.size, 0, none⟩ = some (.pointer (some ⟨C.q, 0, none⟩)) := by simp [World.cell?, bP13.out]
                  have ef0 : w13.frozen? ⟨w4.heap.size, 0, none⟩ = false := by simp [World.frozen?, bL13.out]
                  have ec0 : w13.cell? ⟨w4.heap.size, 0, none⟩ = some (.string (bs name)) := by simp [World.cell?, bL13.out, fuV, bs]
                  have ef1 : w13.frozen? ⟨w4.heap.size, 1, none⟩ = false := by simp [World.frozen?, bL13.out]
                  have ec1 : w13.cell? ⟨w4.heap.size, 1, none⟩ = some (.int .i64 0) := by simp [World.cell?, bL13.out, fuV, bs]
                  have ef2 : w13.frozen? ⟨w4.heap.size, 2, none⟩ = false := by simp [World.frozen?, bL13.out]
                  have ec2 : w13.cell? ⟨w4.heap.size, 2, none⟩ = some (.int .i64 0) := by simp [World.cell?, bL13.out, fuV, bs]
                  have ef3 : w13.frozen? ⟨w4.heap.size, 3, none⟩ = false := by simp [World.frozen?, bL13.out]
                  have ec3 : w13.cell? ⟨w4.heap.size, 3, none⟩ = some ((.slice A6 (strsV ps).length c6)) := by simp [World.cell?, bL13.out, fuV, bs]
                  have ef4 : w13.frozen? ⟨w4.heap.size, 4, none⟩ = false := by simp [World.frozen?, bL13.out]
                  have ec4 : w13.cell? ⟨w4.heap.size, 4, none⟩ = some (.int .i64 1) := by simp [World.cell?, bL13.out, fuV, bs]
                  have ef5 : w13.frozen? ⟨w4.heap.size, 5, none⟩ = false := by simp [World.frozen?, bL13.out]
                  have ec5 : w13.cell? ⟨w4.heap.size, 5, none⟩ = some ((.slice A11 (intsV body).length c11)) := by simp [World.cell?, bL13.out, fuV, bs]
                  have HP9 := Lib.hid (fun W (ho : Only w4.heap.size w13 W) => putF_calls C S d s11 ({ name := name, lo := lo, hi := hi', params := ps, ty := 1, body := body } : Fu) (.slice A6 (strsV ps).length c6) (.slice A11 (intsV body).length c11) W (((P13.out.only ho (.inl (.inl (.inr rfl)))).less (by omega)).sub (fun b hb => hb.imp (fun h => h.imp (fun h => .inl (.inl h)) id) id)) (L6x13.out.only ho fun g hg => ⟨⟨hg.1, fun e => hg.2 (.inl (.inl e))⟩, fun e => hg.2 (e ▸ .inr rfl)⟩) (L11x13.out.only ho fun g hg => ⟨⟨hg.1, fun e => hg.2 (.inl (.inl (.inl e)))⟩, fun e => hg.2 (e ▸ .inl (.inr rfl))⟩))
                  have HK9 := Lib.hid (fun W (ho : Only w4.heap.size w13 W) => K13.out.only ho (by have := (P13.out.sLt _ (.inl (.inl (.inr rfl)))).1; omega) (fun e => by have h1 := (H.out.sLt _ e).2; have h2 := hlbw.out; omega))
                  have HC9 := Lib.hid bP13.out
                  go_wp2
                  go_region_with (go_at_call 110; refine (HP9.out _ ((((Only.refl _ _).set 1 _).set 2 _).drew)).mono ?_; intro e w98 h98; obtain ⟨rfl, h3⟩ := h98; have H98 := Lib.hid h3; clear h3; unfold natV)
                  all_goals
                    go_wp2
                    go_end0
                    obtain rfl : R = _ := HRz.out.symm
                    exact ⟨rfl, H98.out.1, (HK9.out _ ((((Only.refl _ _).set 1 _).set 2 _).drew)).trans H98.out.2⟩
    · have HR1 := Lib.hid ((ifT (b := isP C.T [kFunc] s && s.fn.length == 32) (by rw [hb, hl]; rfl)).symm.trans HR.out)
      have hl2 : ((s.fn.length : Int) == 32) = true := by rw [beq_iff_eq] at hl ⊢; omega
      clear hb hl HR
      go_wp2_with fail
      refine (his.out).mono ?_
      rintro e w1 ⟨rfl, hB⟩
      have P1 := Lib.hid (P0.out.below hB)
      have K1 := Lib.hid (K0.out.trans ((P0.out.belowK hB).sub (fun _ h => .inl (h))))
      have bP1 := Lib.hid ((hB.block _ (blk_lt bP0.out)).trans bP0.out)
      clear hB
      have cp1 : w1.cell? ⟨w.heap.size, 0, none⟩ = some (.pointer (some ⟨C.q, 0, none⟩)) := by simp [World.cell?, bP1.out]
      go_wp2_with fail
      refine (hln.out _ P1.out).mono ?_
      rintro e wx ⟨rfl, rfl⟩
      obtain rfl : R = .no 5 s.at_ := HR1.out.symm
      have hfl := Lib.hid (fail_calls C (Also S w.heap.size) d s 5 _ P1.out unitV)
      go_wp2_with fail
      refine hfl.out.mono ?_
      intro e w9 h9
      obtain rfl := h9.1
      go_wp2
      exact ⟨rfl, bad_of h9 K1.out (fun _ h => .inl (h))⟩

end Go.Proofs.YtdeflloidhbpmaaGreatDoor
