/-
  The statement ArenaRooms, gone through.
-/
import Derived.Test.YthbhdmkbojjjkaaArMath
import Derived.Test.YthbhdmkbojjjkaaArgs
import Derived.Deep.MidRow
namespace Go.Proofs.Ythbhdmkbojjjkaa
open Go.RowKit

set_option maxRecDepth 100000 in
theorem zero256 (w : World) : (zeroValue 40).run Try.prog w = .ok (.agg (Array.replicate 256 (.bool false))) w := by kernel_rfl
theorem Try.info256 : (Try.prog.info? 40).map (·.size) = some 256 := by kernel_rfl
/-- The zero of the row. -/
theorem row256 : ∃ za : Array Value, (∀ w, (zeroValue 40).run Try.prog w = .ok (.agg za) w) ∧ za.size = 256 ∧ (∀ j, j < 256 → za[j]? = some (.bool false)) ∧ za.all (·.oneCell') = true :=
  ⟨_, zero256, Array.size_replicate, fun j hj => by rw [Array.getElem?_replicate, if_pos hj], by decide +kernel⟩

/-- The row of those seen. -/
def Seen (b : Nat) (ks : List Int) (w : World) : Prop :=
  ∃ cur : Array Value, w.heap[b]? = some (.cells cur 40) ∧ cur.size = 256 ∧ ∀ j, j < 256 → cur[j]? = some (.bool (decide ((j : Int) ∈ ks)))
theorem Seen.lt {b : Nat} {ks : List Int} {w : World} (h : Seen b ks w) : b < w.heap.size := by
  obtain ⟨cur, h1, _⟩ := h
  exact (Array.getElem?_eq_some_iff.1 h1).1
theorem Seen.cell {b : Nat} {ks : List Int} {w : World} (h : Seen b ks w) (j : Nat) (hj : j < 256) : w.cell? ⟨b, j, none⟩ = some (.bool (decide ((j : Int) ∈ ks))) ∧ w.frozen? ⟨b, j, none⟩ = false := by
  obtain ⟨cur, h1, h2, h3⟩ := h
  refine ⟨?_, by simp [World.frozen?, h1]⟩
  rw [← h3 j hj]
  simp [World.cell?, h1]
theorem Seen.save {b : Nat} {ks : List Int} {w w' : World} {S : List Nat} (h : Seen b ks w) (hS : Save S w w') (hb : b ∉ S) : Seen b ks w' := by
  have hl := h.lt
  obtain ⟨cur, h1, h2⟩ := h
  exact ⟨cur, (hS.block b hl hb).trans h1, h2⟩
theorem Seen.put {b : Nat} {ks ks' : List Int} {w : World} (h : Seen b ks w) (j : Nat) (hj : j < 256) (hk : ∀ i : Int, i ∈ ks' ↔ i = (j : Int) ∨ i ∈ ks) : Seen b ks' (w.setCell ⟨b, j, none⟩ (.bool true)) := by
  obtain ⟨cur, h1, h2, h3⟩ := h
  refine ⟨cur.setIfInBounds j (.bool true), heap_setCell_at w b j _ _ _ _ h1, by simp [h2], fun i hi => ?_⟩
  rw [Array.getElem?_setIfInBounds]
  by_cases e : j = i
  · subst e
    rw [if_pos rfl, if_pos (by omega), decide_eq_true ((hk _).2 (.inl rfl))]
  · rw [if_neg e, h3 i hi]
    have : ((i : Int) ∈ ks') ↔ ((i : Int) ∈ ks) := by rw [hk]; constructor
                                                      · rintro (h | h)
                                                        · omega
                                                        · exact h
                                                      · exact .inr
    simp only [this]

theorem seen_start (w : World) (za : Array Value) (hs : za.size = 256) (hv : ∀ j, j < 256 → za[j]? = some (.bool false)) :
    (w.alloc (.cells za 40)).there w.heap.size 0 za.size ∧ Seen w.heap.size [] ((w.alloc (.cells za 40)).setCells w.heap.size 0 za.toList) := by
  have h1 : (w.alloc (.cells za 40)).heap[w.heap.size]? = some (.cells za 40) := heap_alloc_new w _
  refine ⟨fun j hj => ?_, ?_⟩
  · rw [Nat.zero_add]
    refine ⟨?_, by simp only [World.frozen?, h1]; simp⟩
    simp only [World.cell?, h1]
    rw [hv j (by omega)]
    rfl
  · obtain ⟨cur, h2, h3⟩ := setCells_row w.heap.size 40 (0, 0) za.toList 0 _ _ h1 (by simp)
    have h4 : cur = za := by
      apply Array.ext'
      rw [h3]; simp
    subst h4
    exact ⟨cur, h2, hs, fun j hj => by rw [hv j hj]; simp⟩

/-- What holds at the head of a round. -/
structure RoomsI (w1 : World) (b1 b2 b3 : Nat) (room fa : Int) (va vb : Value) (xa xb : List It) (k : Nat) (wr : World) : Prop where
  low : Below w1.heap.size w1 wr
  a : ShAt b1 (roomS room) fa va xa wr
  b : ShAt b2 1000 (xb.length : Int) vb xb wr
  seen : Seen b3 (keys xb) wr
  rowA : ∀ g, va.ownBlock = some g → b3 < g ∧ g < wr.heap.size ∧ vb.ownBlock ≠ some g
  rowB : ∀ g, vb.ownBlock = some g → b3 < g ∧ g < wr.heap.size
  valA : ∀ p ∈ xa, p.2 = p.1 * p.1 - 3
  valB : ∀ p ∈ xb, p.2 = p.1 * p.1 - 3
  nodA : (keys xa).Nodup
  nodB : (keys xb).Nodup
  sub : ∀ x ∈ keys xa, x ∈ keys xb
  len : xb.length ≤ k
  fetA : (xb.length : Int) ≤ fa ∧ fa ≤ k


theorem keys_len_I (xs : List It) : ((keys xs).length : Int) = (xs.length : Int) := by rw [keys_len]
theorem sep_new {v v' : Value} {w : World} {P : Nat → Prop} (h : ∀ g, v.ownBlock = some g → P g) (hs : SameOrNew v v' w) (hn : ∀ g, w.heap.size ≤ g → P g) : ∀ g, v'.ownBlock = some g → P g := fun g hg => by
  rcases hs with h1 | ⟨g', h1, h2⟩
  · exact h g (h1 ▸ hg)
  · rw [h1] at hg; injection hg with hg; subst hg; exact hn _ h2

/-- A round: seen is stored, both shelves are asked, a has it. -/
theorem rooms_step {w1 wr w5 w6 w7 : World} {b1 b2 b3 : Nat} {room fa : Int} {va vb va' vb' : Value} {xa xb : List It} {k z : Nat} (h : RoomsI w1 b1 b2 b3 room fa va vb xa xb k wr) (hb1 : w1.heap.size ≤ b1) (hb2 : b1 < b2) (hb3 : b2 < b3) (hk : k < 100) (hz : z < 256)
    (a5 : ShAt b1 (roomS room) (askF fa xa z) va' (askS (roomS room) xa z (z * z - 3)) w5) (s5 : Save (b1 :: va.ownBlock.toList) (wr.setCell ⟨b3, z, none⟩ (.bool true)) w5) (n5 : SameOrNew va va' (wr.setCell ⟨b3, z, none⟩ (.bool true)))
    (a6 : ShAt b2 1000 (askF xb.length xb z) vb' (askS 1000 xb z (z * z - 3)) w6) (s6 : Save (b2 :: vb.ownBlock.toList) w5 w6) (n6 : SameOrNew vb vb' w5) (h7 : Below w6.heap.size w6 w7) :
    RoomsI w1 b1 b2 b3 room (askF fa xa z) va' vb' (askS (roomS room) xa z (z * z - 3)) (askS 1000 xb z (z * z - 3)) (k + 1) w7 := by
  have hS : Save [b3] wr (wr.setCell ⟨b3, z, none⟩ (.bool true)) := save_setCell b3 z _ (by simp)
  have z0 := hS.size
  have z5 := s5.size
  have z6 := s6.size
  have zl := h.low.size
  have hlen : (xb.length : Int) < 1000 := by have := h.len; omega
  have hlen' : ((keys xb).length : Int) < 1000 := by rw [keys_len]; exact hlen
  have kb : keys (askS 1000 xb z (z * z - 3)) = keyS 1000 (keys xb) z := keys_askS 1000 xb z _ h.nodB
  have ka : keys (askS (roomS room) xa z (z * z - 3)) = keyS (roomS room) (keys xa) z := keys_askS _ xa z _ h.nodA
  have lb : (askS 1000 xb z (z * z - 3)).length = if (z : Int) ∈ keys xb then xb.length else xb.length + 1 := by
    rw [← keys_len, kb, keyS_big_len 1000 _ _ h.nodB hlen', keys_len]
  have fb : askF (xb.length : Int) xb z = ((askS 1000 xb z (z * z - 3)).length : Int) := by
    rw [askF_key, lb]
    split <;> simp
  have r6 : ∀ g, va'.ownBlock = some g → b3 < g ∧ g < w5.heap.size ∧ vb.ownBlock ≠ some g := by
    have h1 := sep_new (P := fun g => b3 < g ∧ vb.ownBlock ≠ some g) (fun g hg => ⟨(h.rowA g hg).1, (h.rowA g hg).2.2⟩) n5 (fun g hg => ⟨by have := h.seen.lt; omega, fun e => by have := (h.rowB g e).2; omega⟩)
    exact fun g hg => ⟨(h1 g hg).1, (a5.row g hg).2, (h1 g hg).2⟩
  have r6b : ∀ g, vb'.ownBlock = some g → b3 < g ∧ va'.ownBlock ≠ some g :=
    sep_new (P := fun g => b3 < g ∧ va'.ownBlock ≠ some g) (fun g hg => ⟨(h.rowB g hg).1, fun e => (r6 g e).2.2 hg⟩) n6 (fun g hg => ⟨by have := h.seen.lt; omega, fun e => by have := (r6 g e).2.1; omega⟩)
  have a6' : ShAt b1 (roomS room) (askF fa xa z) va' (askS (roomS room) xa z (z * z - 3)) w6 :=
    a5.save s6 (by simp; exact ⟨by omega, fun e => by have := (h.rowB b1 e).1; omega⟩) (fun g hg e => by
      simp at hg
      rcases hg with rfl | hg
      · have := (r6 _ e).1; omega
      · exact (r6 g e).2.2 hg)
  have q5 : Seen b3 (keys (askS 1000 xb z (z * z - 3))) (wr.setCell ⟨b3, z, none⟩ (.bool true)) :=
    h.seen.put z hz fun i => by rw [kb]; exact keyS_big_mem 1000 (keys xb) z i hlen'
  have q6 := (q5.save s5 (by simp; exact ⟨by omega, fun e => by have := (h.rowA b3 e).1; omega⟩)).save s6 (by simp; exact ⟨by omega, fun e => by have := (h.rowB b3 e).1; omega⟩)
  refine ⟨?_, a6'.below h7, ?_, q6.save (save_of_below [] h7 (Nat.le_refl _)) (by simp), fun g hg => ⟨(r6 g hg).1, by have := (r6 g hg).2.1; have := h7.size; omega, fun e => (r6b g e).2 hg⟩, fun g hg => ⟨(r6b g hg).1, by have := (a6.row g hg).2; have := h7.size; omega⟩, ?_, ?_, ?_, ?_, ?_, ?_, ?_⟩
  · have e1 : Below w1.heap.size w1 (wr.setCell ⟨b3, z, none⟩ (.bool true)) := h.low.setCell (p := ⟨b3, z, none⟩) (by simp; omega) _
    have e2 := below_asked e1 s5 hb1 (fun g hg => by have := (h.rowA g hg).1; omega) (by omega)
    have e3 := below_asked e2 s6 (by omega) (fun g hg => by have := (h.rowB g hg).1; omega) (by omega)
    exact e3.trans (h7.mono (by omega))
  · rw [← fb]; exact a6.below h7
  · exact askS_vals (roomS room) xa z (fun k => k * k - 3) h.valA
  · exact askS_vals 1000 xb z (fun k => k * k - 3) h.valB
  · rw [ka]; exact keyS_nodup _ _ _ h.nodA
  · rw [kb]; exact keyS_nodup _ _ _ h.nodB
  · rw [ka, kb]
    intro x hx
    rw [keyS_big_mem 1000 _ _ _ hlen']
    rcases keyS_mem _ _ _ _ hx with e | e
    · exact .inl e
    · exact .inr (h.sub x e)
  · rw [lb]; have := h.len; split <;> omega
  · rw [lb, askF_key]
    have h1 := h.fetA
    by_cases e1 : (z : Int) ∈ keys xb
    · rw [if_pos e1]; split <;> omega
    · rw [if_neg e1, if_neg fun e => e1 (h.sub _ e)]; omega

theorem enter_sq (args : Array Value) (w : World) : (callFunc 18 args).run Try.prog w = .ok (.enter 18 args) w := by
  simp [go_sem]
theorem sq_calls (z : Nat) (hz : z < 256) (w : World) : Calls Try.prog 18 #[.int .i64 (z : Int)] w fun e w' => e = .returned (.int .i64 ((z : Int) * z - 3)) ∧ w = w' := by
  have h1 : (z : Int) * z ≤ 65025 := by
    have h2 : z * z ≤ 255 * 255 := Nat.mul_le_mul (by omega) (by omega)
    have h3 : z * z ≤ 65025 := h2
    rw [← Int.natCast_mul]
    omega
  have h0 : (0 : Int) ≤ (z : Int) * z := by exact_mod_cast Nat.zero_le _
  go_enter Try.func18, Try.ntmps18
  go_wp2
  go_ret
  exact ⟨rfl, rfl⟩

set_option maxRecDepth 100000 in
set_option maxHeartbeats 2000000 in
theorem rooms_short (room : Int) (A : Option Addr) (c : Nat) (zs : List Int) (hz : ∀ z ∈ zs, 0 ≤ z ∧ z < 256) (w : World) (hn : zs.length ≤ 100) (hA : ByAt w w.heap.size A zs.length zs) :
    Calls Try.prog 5 #[.int .i64 room, .slice A zs.length c] w fun e w' => e = .returned (.bool true) ∧ Below w.heap.size w w' := by
  have hd : decide ((100 : Int) < (zs.length : Int)) = false := decide_eq_false (by omega)
  have hd' : decide (100 < zs.length) = false := decide_eq_false (by omega)
  have HA := Lib.hid hA
  have HZ := Lib.hid hz
  clear hA hz
  go_enter Try.func5, Try.ntmps5
  go_wp2_with fail
  refine (awake_calls _).mono ?_
  rintro e w1 ⟨rfl, hB1⟩
  have hz1 := hB1.size
  have HB1 := Lib.hid hB1
  clear hB1
  go_wp2_with fail
  refine (room_shelf room w1).mono ?_
  rintro e w2 ⟨rfl, h2, hB2, hz2⟩
  have H2 := Lib.hid h2
  have HB2 := Lib.hid hB2
  have HZ2 := Lib.hid hz2
  have hl2 : w1.heap.size < w2.heap.size := by omega
  clear h2 hB2 hz2
  go_wp2_with fail
  refine (room_shelf 1000 w2).mono ?_
  rintro e w3 ⟨rfl, h3, hB3, hz3⟩
  have H3 := Lib.hid h3
  have HB3 := Lib.hid hB3
  have HZ3 := Lib.hid hz3
  have hl3 : w2.heap.size < w3.heap.size := by omega
  clear h3 hB3 hz3
  obtain ⟨za, hzv, hzs, hzf, hzo⟩ := row256
  have hst := Lib.hid (seen_start w3 za hzs hzf)
  have hi4 : Hid ((Try.prog.info? 40).map (·.size) = some za.size) := Lib.hid (by rw [hzs]; exact Try.info256)
  have hone := Lib.hid hzo
  clear hzs hzf hzo
  go_wp2_with (with_reducible refine wpList_store_mid rfl 40 (.tmp 8) (.tmp 29) rfl w3.heap.size 0 za rfl rfl hst.out.1 hi4.out hone.out ?_)
  have hi0 : Hid (RoomsI w1 w1.heap.size w2.heap.size w3.heap.size room 0 (.slice none 0 0) (.slice none 0 0) [] [] 0 ((w3.alloc (.cells za 40)).setCells w3.heap.size 0 za.toList)) := Lib.hid (by
    have e1 := (save_of_below [] ((Below.refl w3.heap.size w3).alloc (Nat.le_refl _) (.cells za 40)) (Nat.le_refl _)).trans' (save_setCells w3.heap.size 0 za.toList (w3.alloc (.cells za 40)) (by simp)) (fun x hx => by simp at hx; omega)
    have e2 := e1.below (B := w3.heap.size) (by simp) (Nat.le_refl _)
    exact ⟨(HB2.out.trans (HB3.out.mono (by omega))).trans (e2.mono (by omega)), (H2.out.below HB3.out).below e2, H3.out.below e2, hst.out.2, (fun g hg => by cases hg), (fun g hg => by cases hg), by simp, by simp, by simp [keys], by simp [keys], by simp [keys], by simp, by simp⟩)
  clear hzv hst hi4 hone H2 H3 HB2 HB3 HZ2 HZ3
  go_loopw [7, 32] (fun kd i wr => ∃ (k : Nat) (fa : Int) (va vb : Value) (xa xb : List It), k ≤ zs.length ∧ i = .int .i64 k ∧ kd = .int .i64 (xb.length : Int) ∧ Hid (RoomsI w1 w1.heap.size w2.heap.size w3.heap.size room fa va vb xa xb k wr)) (fun _ i _ => zs.length - (intOf i).toNat)
  case atStart => exact ⟨0, 0, _, _, [], [], by omega, rfl, rfl, hi0⟩
  case round =>
    obtain ⟨k, fa, va, vb, xa, xb, hk, rfl, rfl, HI⟩ := hrel
    clear hi0
    have hxl := HI.out.len
    by_cases hlt : k < zs.length
    · obtain ⟨b, off, rfl, hb, hkl, hcl⟩ := HA.out.get k hlt
      have hx := (HI.out.low.cell (p := ⟨b, off + k, none⟩) (by simp; omega)).trans ((HB1.out.cell (p := ⟨b, off + k, none⟩) hb).trans hcl)
      obtain ⟨g0, g1⟩ := HZ.out zs[k] (List.getElem_mem hkl)
      clear hcl
      generalize zs[k] = zi at hx g0 g1
      obtain ⟨z, rfl⟩ := Int.eq_ofNat_of_zero_le g0
      have hz : z < 256 := by omega
      have hlk : (k : Int) < (zs.length : Int) := by omega
      have hk0 : (0 : Int) ≤ (k : Int) := by omega
      obtain ⟨hsc, hsf⟩ := HI.out.seen.cell z hz
      have hal := HI.out.a.lt
      have hbl := HI.out.b.lt
      have hfa := HI.out.fetA
      obtain ⟨hfa0, hfa1⟩ := hfa
      have hla : xa.length ≤ xb.length := by
        have := len_le_of_sub _ _ HI.out.nodA HI.out.sub
        rwa [keys_len, keys_len] at this
      have HS := Lib.hid (save_setCell (S := [w3.heap.size]) (w := wr) w3.heap.size z (.bool true) (by simp))
      have HA1 := Lib.hid (HI.out.a.save HS.out (by simp; omega) (fun g hg e => by simp at hg; subst hg; have := (HI.out.rowA _ e).1; omega))
      have HB1' := Lib.hid (HI.out.b.save HS.out (by simp; omega) (fun g hg e => by simp at hg; subst hg; have := (HI.out.rowB _ e).1; omega))
      have HKA := Lib.hid (ask_pure w1.heap.size (roomS room) fa va xa z (fun k => k * k - 3) 18 _ (by omega) (by omega) (by omega) HA1.out HI.out.valA enter_sq (fun w => sq_calls z hz w))
      have HLB : Hid (∀ w5, Save (w1.heap.size :: va.ownBlock.toList) (wr.setCell ⟨w3.heap.size, z, none⟩ (.bool true)) w5 → Calls Try.prog 12 #[.pointer (some ⟨w2.heap.size, 0, none⟩), .int .i64 (z : Int), .func (.func 18) #[] #[]] w5 (Asked w2.heap.size 1000 xb.length vb xb z ((z : Int) * z - 3) w5)) := Lib.hid fun w5 hs5 =>
        ask_pure w2.heap.size 1000 xb.length vb xb z (fun k => k * k - 3) 18 w5 (by omega) (by omega) (by omega) (HB1'.out.save hs5 (by simp; exact ⟨by omega, fun e => by have := (HI.out.rowA _ e).1; omega⟩) (fun g hg e => by
          simp at hg
          rcases hg with rfl | hg
          · have := (HI.out.rowB _ e).1; omega
          · exact (HI.out.rowA g hg).2.2 e)) HI.out.valB enter_sq (fun w => sq_calls z hz w)
      have HLEN : Hid ((if decide ((z : Int) ∈ keys xb) = true then (xb.length : Int) else (xb.length : Int) + 1) = ((askS 1000 xb z ((z : Int) * z - 3)).length : Int)) := Lib.hid (by
        have h2 := keys_askS 1000 xb z ((z : Int) * z - 3) HI.out.nodB
        have h3 := keyS_big_len 1000 (keys xb) z HI.out.nodB (by rw [keys_len]; omega)
        rw [← h2, keys_len, keys_len] at h3
        rw [h3]
        by_cases e : (z : Int) ∈ keys xb
        · rw [if_pos e, if_pos (decide_eq_true e)]
        · rw [if_neg e, if_neg (by simpa using e)]; omega)
      have HHAS : Hid (decide (0 ≤ plc z (askS (roomS room) xa z ((z : Int) * z - 3))) = true) := Lib.hid (by
        rw [has_key, keys_askS _ _ _ _ HI.out.nodA, decide_eq_true (keyS_self _ _ _)])
      have HLA : Hid ((askS (roomS room) xa z ((z : Int) * z - 3)).length ≤ 10000) := Lib.hid (by
        rw [← keys_len, keys_askS _ _ _ _ HI.out.nodA]
        have h2 := keyS_len_le (roomS room) (keys xa) z
        rw [keys_len] at h2
        omega)
      generalize decide ((z : Int) ∈ keys xb) = sn at hsc HLEN
      cases sn
      all_goals
        simp only [if_true, if_false, Bool.false_eq_true] at HLEN
        go_wp2_with fail
        refine HKA.out.mono ?_
        rintro e w5 ⟨rfl, va', a5, s5, n5⟩
        have A5 := Lib.hid a5
        have S5 := Lib.hid s5
        have N5 := Lib.hid n5
        clear a5 s5 n5
        go_wp2_with fail
        refine (HLB.out w5 S5.out).mono ?_
        rintro e w6 ⟨rfl, vb', a6, s6, n6⟩
        have A6 := Lib.hid a6
        have S6 := Lib.hid s6
        have N6 := Lib.hid n6
        clear a6 s6 n6
        have HH := Lib.hid (rooms_step HI.out (Nat.le_refl _) hl2 hl3 (by omega) hz A5.out S5.out N5.out A6.out S6.out N6.out (Below.refl _ w6))
        have HAS := Lib.hid (has_calls w1.heap.size (roomS room) (askF fa xa z) va' _ z w6 HLA.out HH.out.a)
        rw [HHAS.out] at HAS
        have HST := Lib.hid (fun w7 (h7 : Below w6.heap.size w6 w7) => rooms_step HI.out (Nat.le_refl _) hl2 hl3 (by omega) hz A5.out S5.out N5.out A6.out S6.out N6.out h7)
        go_wp2_with fail
        refine HAS.out.mono ?_
        rintro e w7 ⟨rfl, h7⟩
        have HF := Lib.hid (HST.out w7 h7)
        clear h7
        go_wp2
        go_roundw
        case rel => exact ⟨k + 1, _, _, _, _, _, by omega, by go_num, by rw [HLEN.out], HF⟩
        case measure => simp [intOf]; omega
    · obtain rfl : k = zs.length := by omega
      have hla : decide (xa.length ≤ xb.length) = true := by
        have := len_le_of_sub _ _ HI.out.nodA HI.out.sub
        rw [keys_len, keys_len] at this
        exact decide_eq_true this
      have hla' : decide ((xa.length : Int) ≤ (xb.length : Int)) = true := decide_eq_true (by have := of_decide_eq_true hla; omega)
      have hfa : decide ((xb.length : Int) ≤ fa) = true := decide_eq_true HI.out.fetA.1
      go_wp2_with fail
      refine (fetched_calls _ _ _ _ _ _ HI.out.b).mono ?_
      rintro e w5 ⟨rfl, rfl⟩
      go_wp2_with fail
      refine (slen_calls _ _ _ _ _ _ HI.out.b).mono ?_
      rintro e w5 ⟨rfl, rfl⟩
      go_wp2_with fail
      refine (fetched_calls _ _ _ _ _ _ HI.out.a).mono ?_
      rintro e w5 ⟨rfl, rfl⟩
      go_wp2_with fail
      refine (slen_calls _ _ _ _ _ _ HI.out.a).mono ?_
      rintro e w5 ⟨rfl, rfl⟩
      go_wp2
      go_ret
      exact ⟨rfl, HB1.out.trans (HI.out.low.mono hz1)⟩

set_option maxRecDepth 100000 in
set_option maxHeartbeats 2000000 in
theorem rooms_long (room : Int) (A : Option Addr) (c : Nat) (n : Nat) (w : World) (hn : 100 < n) :
    Calls Try.prog 5 #[.int .i64 room, .slice A n c] w fun e w' => e = .returned (.bool true) ∧ Below w.heap.size w w' := by
  have hd : decide ((100 : Int) < (n : Int)) = true := decide_eq_true (by omega)
  have hd' : decide (100 < n) = true := decide_eq_true hn
  go_enter Try.func5, Try.ntmps5
  go_wp2_with fail
  refine (awake_calls _).mono ?_
  rintro e w1 ⟨rfl, hB1⟩
  go_wp2_with fail
  refine (awake_calls _).mono ?_
  rintro e w2 ⟨rfl, hB2⟩
  go_wp2
  go_ret
  exact ⟨rfl, hB1.trans (hB2.mono hB1.size)⟩

theorem rooms_walk (room : Int) (A : Option Addr) (c : Nat) (zs : List Int) (hz : ∀ z ∈ zs, 0 ≤ z ∧ z < 256) (w : World) (hA : ByAt w w.heap.size A zs.length zs) :
    Calls Try.prog 5 #[.int .i64 room, .slice A zs.length c] w fun e w' => e = .returned (.bool true) ∧ Below w.heap.size w w' := by
  by_cases h : zs.length ≤ 100
  · exact rooms_short room A c zs hz w h hA
  · exact rooms_long room A c zs.length w (by omega)

end Go.Proofs.Ythbhdmkbojjjkaa
