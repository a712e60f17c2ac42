/-
  token.All: a text's tokens, or where something is none.
  The reference's list of words, and whether a text is in a list.
  Slices of texts in memory: rows of the call's own; token.Words.
-/
import Derived.Test.YtdeflloidhbpmaaGreatDoorK21
import Derived.RegionTactic
import Derived.Deep.QuietTactic
import Derived.BigQuiet
namespace Go.Proofs.YtdeflloidhbpmaaGreatDoor
open Go.RowKit

/-- What All answers. -/
def AllPost (s : ByteArray) (w : World) (e : Ending) (w' : World) : Prop :=
  Below w.heap.size w w' ∧ ((∃ p, (toks s.data.toList 0).2 = some p ∧ e = .returned (.tuple #[.slice none 0 0, .int .i64 (p : Int), .int .i64 2])) ∨
  ((toks s.data.toList 0).2 = none ∧ ∃ A c, e = .returned (.tuple #[.slice A (toks s.data.toList 0).1.length c, .int .i64 0, .int .i64 0]) ∧ TkAt w' w'.heap.size A (toks s.data.toList 0).1.length (toks s.data.toList 0).1))
/-- What All's loop knows at the head of a round. -/
def AllI (s : ByteArray) (w : World) (k : Nat) (pre : List Tok) (v i : Value) (wr : World) : Prop :=
  k ≤ s.size ∧ i = .int .i64 (k : Int) ∧ pre.length ≤ k ∧ toks s.data.toList 0 = (pre ++ (toks s.data.toList k).1, (toks s.data.toList k).2) ∧ wr.ownsRow w.heap.size 49 3 v pre.length (flatT pre) ∧ Below w.heap.size w wr

theorem own_some {w : World} {base n : Nat} {e : TypeId} {size : Nat} {v : Value} {xs : List Value} (h : w.ownsRow base e size v (n + 1) xs) : ∃ g cap, v = .slice (some ⟨g, 0, none⟩) (n + 1) cap := by
  rcases h.2 with ⟨_, h0⟩ | ⟨g, cap, cur, hv, _⟩
  · omega
  · exact ⟨g, cap, hv⟩
theorem box_after {W w3 : World} {base n : Nat} {e t : TypeId} {size : Nat} {v : Value} {xs : List Value} {a b c : Value} {o : Obj} (h : W.ownsRow base e size v n xs) (hg : ((W.alloc (.cells #[a, b, c] t)).alloc o).grownBy w3 v.ownBlock) :
    w3.cell? ⟨W.heap.size, 0, none⟩ = some a ∧ w3.cell? ⟨W.heap.size, 1, none⟩ = some b ∧ w3.cell? ⟨W.heap.size, 2, none⟩ = some c := by
  have hne : some W.heap.size ≠ v.ownBlock := fun e => by
    rcases h.2 with ⟨rfl, _⟩ | ⟨g, cap, cur, rfl, hb, hgg, _⟩
    · simp [Value.ownBlock] at e
    · have : W.heap.size = g := by simpa [Value.ownBlock] using e
      have hlt := (Array.getElem?_eq_some_iff.1 hgg).1
      omega
  have hk := hg.block W.heap.size (by simp; omega) hne
  have h0 : ((W.alloc (.cells #[a, b, c] t)).alloc o).heap[W.heap.size]? = some (.cells #[a, b, c] t (0, 0)) := by
    show ((W.heap.push _).push _)[W.heap.size]? = _
    simp [Array.getElem?_push]
  rw [h0] at hk
  refine ⟨?_, ?_, ?_⟩ <;> simp [World.cell?, hk]

theorem own_below {w w' : World} {base n : Nat} {e : TypeId} {size : Nat} {v : Value} {xs : List Value} (h : w.ownsRow base e size v n xs) (hB : Below w.heap.size w w') : w'.ownsRow base e size v n xs := by
  refine ⟨h.1, ?_⟩
  rcases h.2 with h0 | ⟨g, cap, cur, hv, hb, hg, hnc, hcm, hcs, ht⟩
  · exact .inl h0
  · exact .inr ⟨g, cap, cur, hv, hb, (hB.block g (Array.getElem?_eq_some_iff.1 hg).1).trans hg, hnc, hcm, hcs, ht⟩

set_option maxRecDepth 100000 in
set_option maxHeartbeats 2000000 in
theorem all_calls (s : ByteArray) (hs : s.size ≤ 20000) (w : World) (hw : Tabs w) :
    Calls Tryz.prog 26 #[.string s] w (AllPost s w) := by
  obtain ⟨i0, hi, hz0, hz1, hz2⟩ := info_parts Tryz.infoTk
  have hd : decide ((20000 : Int) < (s.size : Int)) = false := by simp; omega
  have hw2 := hw.2.2
  have HW := Lib.hid hw
  clear hw
  go_enter Tryz.func26, Tryz.ntmps26
  go_wp2
  go_loopw [5, 6] (fun v i wr => ∃ (k : Nat) (pre : List Tok), AllI s w k pre v i wr) (fun _ i _ => s.size - (intOf i).toNat)
  case atStart => exact ⟨0, [], Nat.zero_le _, rfl, Nat.le_refl _, by simp, ⟨by simp [flatT], .inl ⟨rfl, by simp⟩⟩, Below.refl _ _⟩
  case round =>
    obtain ⟨k, pre, hk, rfl, hpl, hpre, hown, hB⟩ := hrel
    have HPRE := Lib.hid hpre
    have hbs := hB.size
    have hn := Lib.hid (tnext_calls s (by omega) k hk wr (HW.out.below hB hw2))
    have hle := nextT_le s.data.toList k (by rw [sizeL]; exact hk)
    rw [sizeL] at hle
    have HK := Lib.hid (nextT_kind s.data.toList k)
    have HB := Lib.hid (toks_bad s.data.toList k)
    have HE := Lib.hid (toks_end s.data.toList k)
    have HM := Lib.hid (toks_more s.data.toList k (by rw [sizeL]; exact hk))
    generalize hx : nextT s.data.toList k = x at hn hle HK HB HE HM
    clear hx hpre
    obtain ⟨kd, lo, hi'⟩ := x
    obtain ⟨hl1, hl2, hl3, hl4⟩ := hle
    dsimp only at hl1 hl2 hl3 hl4 HK HB HE HM
    unfold tokV at hn
    dsimp only at hn
    cases hb : nextBad s.data.toList k
    · rw [hb] at hn HB HE HM
      unfold badC at hn
      rw [if_neg (by simp)] at hn
      clear hb HB
      by_cases h0 : kd = 0
      · subst h0
        have HP : Hid ((toks s.data.toList 0) = (pre ++ [⟨0, lo, hi'⟩], none)) := Lib.hid (by
          have h1 := HPRE.out
          rw [HE.out rfl rfl] at h1
          exact h1)
        clear HE HM HK HPRE
        go_wp2_with fail
        refine hn.out.mono ?_
        rintro e w2 ⟨rfl, hB2⟩
        have hown2 := own_below hown hB2
        have hB3 := hB.trans (hB2.mono hbs)
        have hbs2 := hB2.size
        go_wp2_with (at_builtin; refine wpList_append_own _ rfl _ _ 43 rfl w.heap.size 49 i0 (.agg #[.int .i64 0, .int .i64 0, .int .i64 0]) 3 24 Tryz.underlying43 hi hz0 hz1 hz2 rfl (by decide) u5 _ _ rfl ((hown2.alloc _).alloc _) ⟨w2.heap.size + 1, 0, none⟩ 1 1 [.int .i64 ((0 : Nat) : Int), .int .i64 (lo : Int), .int .i64 (hi' : Int)] rfl rfl (news3 _ _ _ _ _ _) (fun x hx => by simp at hx; rcases hx with rfl | rfl | rfl <;> rfl) (by unfold maxLen; omega) (by omega) (by simp; omega) ?_; intro v' w3 hown' hgrow _; obtain ⟨d0, d1, d2⟩ := box_after hown2 hgrow; obtain ⟨g, cap, rfl⟩ := own_some hown'; have HG := Lib.hid hgrow; clear hgrow)
        have hB4 := below_append ((hB3.alloc (by omega) _).alloc (by simp; omega) _) (Nat.le_refl _) ((hown2.alloc _).alloc _) HG.out
        have hsp := tkAt_of_own (xs := pre ++ [⟨0, lo, hi'⟩]) (by rw [flatT_append]; exact hown')
        have hlen : (pre ++ [(⟨0, lo, hi'⟩ : Tok)]).length = pre.length + 1 := by simp
        go_ret3
        refine ⟨hB4, .inr ⟨by rw [HP.out], some ⟨g, 0, none⟩, cap, ?_, ?_⟩⟩
        · rw [HP.out]; dsimp only; rw [hlen]; rfl
        · rw [HP.out]; dsimp only; rw [hlen]; exact hsp
      · have hkl := HK.out h0
        have HP : Hid ((toks s.data.toList 0) = ((pre ++ [⟨kd, lo, hi'⟩]) ++ (toks s.data.toList hi').1, (toks s.data.toList hi').2)) := Lib.hid (by
          have h1 := HPRE.out
          rw [HM.out rfl h0] at h1
          rw [h1]; simp)
        clear HE HM HK HPRE
        have hk0 : ((kd : Int) == 0) = false := by rw [beq_eq_false_iff_ne]; omega
        clear h0
        go_wp2_with fail
        refine hn.out.mono ?_
        rintro e w2 ⟨rfl, hB2⟩
        have hown2 := own_below hown hB2
        have hB3 := hB.trans (hB2.mono hbs)
        have hbs2 := hB2.size
        go_wp2_with (at_builtin; refine wpList_append_own _ rfl _ _ 43 rfl w.heap.size 49 i0 (.agg #[.int .i64 0, .int .i64 0, .int .i64 0]) 3 24 Tryz.underlying43 hi hz0 hz1 hz2 rfl (by decide) u5 _ _ rfl ((hown2.alloc _).alloc _) ⟨w2.heap.size + 1, 0, none⟩ 1 1 [.int .i64 (kd : Int), .int .i64 (lo : Int), .int .i64 (hi' : Int)] rfl rfl (news3 _ _ _ _ _ _) (fun x hx => by simp at hx; rcases hx with rfl | rfl | rfl <;> rfl) (by unfold maxLen; omega) (by omega) (by simp; omega) ?_; intro v' w3 hown' hgrow _; obtain ⟨d0, d1, d2⟩ := box_after hown2 hgrow; have HG := Lib.hid hgrow; clear hgrow)
        have hB4 := below_append ((hB3.alloc (by omega) _).alloc (by simp; omega) _) (Nat.le_refl _) ((hown2.alloc _).alloc _) HG.out
        go_roundw
        case rel =>
          refine ⟨hi', pre ++ [⟨kd, lo, hi'⟩], by omega, rfl, by simp; omega, HP.out, ?_, hB4⟩
          rw [flatT_append, List.length_append]
          exact hown'
        case measure => simp [intOf]; omega
    · rw [hb] at hn HB
      have HP : Hid ((toks s.data.toList 0) = (pre, some lo)) := Lib.hid (by
        have h1 := HPRE.out
        rw [HB.out rfl] at h1
        rw [h1]; simp)
      unfold badC at hn
      rw [if_pos rfl] at hn
      clear hb HB HE HM HK HPRE
      go_wp2_with fail
      refine hn.out.mono ?_
      rintro e w2 ⟨rfl, hB2⟩
      have hB3 := hB.trans (hB2.mono hbs)
      have hbs2 := hB2.size
      go_wp2
      go_quiet (fail)
      go_wp2
      go_ret3
      refine ⟨below_drewN' (hB3.alloc (by omega) _) _, .inl ⟨lo, by rw [HP.out], rfl⟩⟩

end Go.Proofs.YtdeflloidhbpmaaGreatDoor

namespace Go.Proofs.YtdeflloidhbpmaaGreatDoor
open Go.RowKit

/-- A slice value reads as the texts xs, in a block below B. -/
def StrAt (w : World) (B : Nat) (A : Option Addr) (n : Nat) (xs : List (List UInt8)) : Prop :=
  xs.length = n ∧ (0 < n → ∃ b off, A = some ⟨b, off, none⟩ ∧ b < B ∧ ∀ i (h : i < xs.length), w.cell? ⟨b, off + i, none⟩ = some (.string (bs xs[i])))
theorem StrAt.below {w w' : World} {B B' : Nat} {A : Option Addr} {n : Nat} {xs : List (List UInt8)} (h : StrAt w B A n xs) (hb : Below B' w w') (hB : B ≤ B') : StrAt w' B A n xs :=
  ⟨h.1, fun hn => by
    obtain ⟨b, off, rfl, hlt, hc⟩ := h.2 hn
    exact ⟨b, off, rfl, hlt, fun i hi => (hb.cell (p := ⟨b, off + i, none⟩) (by simp; omega)).trans (hc i hi)⟩⟩
theorem StrAt.mono {w : World} {B B' : Nat} {A : Option Addr} {n : Nat} {xs : List (List UInt8)} (h : StrAt w B A n xs) (hB : B ≤ B') : StrAt w B' A n xs :=
  ⟨h.1, fun hn => by
    obtain ⟨b, off, rfl, hlt, hc⟩ := h.2 hn
    exact ⟨b, off, rfl, by omega, hc⟩⟩
theorem StrAt.get {w : World} {B : Nat} {A : Option Addr} {n : Nat} {xs : List (List UInt8)} (h : StrAt w B A n xs) (i : Nat) (hi : i < n) : ∃ b off, A = some ⟨b, off, none⟩ ∧ b < B ∧ ∃ h : i < xs.length, w.cell? ⟨b, off + i, none⟩ = some (.string (bs xs[i])) := by
  obtain ⟨b, off, e, hlt, hc⟩ := h.2 (by omega)
  have hx : i < xs.length := by rw [h.1]; exact hi
  exact ⟨b, off, e, hlt, hx, hc i hx⟩
/-- A new row of texts. -/
theorem strAt_new (w : World) (V : Array Value) (t : TypeId) (xs : List (List UInt8)) (n : Nat) (hn : xs.length = n) (hv : ∀ i (h : i < xs.length), V[i]? = some (.string (bs xs[i]))) :
    StrAt (w.alloc (.cells V t)) (w.heap.size + 1) (some ⟨w.heap.size, 0, none⟩) n xs := by
  refine ⟨hn, fun _ => ⟨w.heap.size, 0, rfl, by omega, fun i hi => ?_⟩⟩
  rw [Nat.zero_add, ← hv i hi]
  have : (w.alloc (.cells V t)).heap[w.heap.size]? = some (.cells V t (0, 0)) := by
    show (w.heap.push _)[w.heap.size]? = _
    simp
  generalize w.alloc (.cells V t) = W at this
  simp [World.cell?, this]

def hasB (xs : List (List UInt8)) (b : List UInt8) : Bool := xs.contains b
theorem hasB_yes {xs : List (List UInt8)} {b : List UInt8} (i : Nat) (h : i < xs.length) (e : b = xs[i]) : hasB xs b = true := by
  subst e; simp [hasB]
theorem hasB_no {xs : List (List UInt8)} {b : List UInt8} (h : ∀ i (h : i < xs.length), b ≠ xs[i]) : hasB xs b = false := by
  unfold hasB
  rw [Bool.eq_false_iff]
  intro hc
  obtain ⟨i, hi, e⟩ := List.mem_iff_getElem.1 (show b ∈ xs by simpa using hc)
  exact h i hi e.symm

set_option maxRecDepth 100000 in
set_option maxHeartbeats 1000000 in
theorem has_calls (A : Option Addr) (n c : Nat) (xs : List (List UInt8)) (s : ByteArray) (hn : n ≤ 100000) (w : World) (B : Nat) (hx : StrAt w B A n xs) :
    Calls Tryz.prog 53 #[.slice A n c, .string s] w fun e w' => e = .returned (.bool (hasB xs s.data.toList)) ∧ w = w' := by
  have HX := Lib.hid hx
  have HL := Lib.hid hx.1
  clear hx
  go_enter Tryz.func53, Tryz.ntmps53
  go_wp2
  go_loop [8] (fun a => ∃ i : Nat, i ≤ n ∧ a = .int .i64 i ∧ Hid (∀ j (h : j < xs.length), j < i → s.data.toList ≠ xs[j])) (fun a => n - (intOf a).toNat)
  case atStart => exact ⟨0, by omega, rfl, Lib.hid (fun j _ hj => by omega)⟩
  case round =>
    obtain ⟨i, hi, rfl, HN⟩ := hrel
    by_cases hlt : i < n
    · obtain ⟨b, off, rfl, hb, hxl, hc⟩ := HX.out.get i hlt
      have h1 : (i : Int) < (n : Int) := by omega
      by_cases he : s.data.toList = xs[i]
      · have HE := Lib.hid (hasB_yes i hxl he)
        have hq : ((bs xs[i]).toList == s.toList) = true := by rw [← he]; exact beq_self_eq_true _
        clear he
        go_wp2
        go_ret
        exact ⟨ret_bool HE.out.symm, rfl⟩
      · have HE := Lib.hid he
        have hq : ((bs xs[i]).toList == s.toList) = false := str_ne (fun e => he (by rw [← e, bs_toList]))
        clear he
        go_wp2
        go_round
        case rel => exact ⟨i + 1, by omega, by go_num, Lib.hid (fun j hj hji => by
          by_cases h : j = i
          · subst h; exact HE.out
          · exact HN.out j hj (by omega))⟩
        case measure => simp [intOf]; omega
    · obtain rfl : i = n := by omega
      have HE := Lib.hid (hasB_no (xs := xs) (b := s.data.toList) (fun j hj => HN.out j hj (by rw [← HL.out]; exact hj)))
      go_wp2
      go_ret
      exact ⟨ret_bool HE.out.symm, rfl⟩

theorem wordsV_words (i : Nat) (h : i < wordsL.length) : wordsV[i]? = some (.string (bs wordsL[i])) := by
  rw [wordsV_get i (by simpa [wordsL] using h)]
  unfold wordB
  rw [List.getD_eq_getElem?_getD, List.getElem?_eq_getElem h]
  rfl
set_option maxRecDepth 100000 in
set_option maxHeartbeats 1000000 in
theorem refWords_calls (w : World) : Calls Tryz.prog 54 #[] w fun e w' => e = .returned (.slice (some ⟨w.heap.size, 0, none⟩) 13 13) ∧ w.alloc (.cells wordsV 9) = w' := by
  go_enter Tryz.func54, Tryz.ntmps54
  go_wp2
  go_ret
  exact ⟨rfl, rfl⟩

end Go.Proofs.YtdeflloidhbpmaaGreatDoor

namespace Go.Proofs.YtdeflloidhbpmaaGreatDoor
open Go.RowKit

theorem Tryz.infoStr : (Tryz.prog.info? 9).map (fun i => (i.zero, i.size, i.bytes)) = some (some (.string ⟨#[]⟩), 1, 16) := by kernel_rfl
def flatW (ws : List (List UInt8)) : List Value := ws.map fun b => .string (bs b)
theorem flatW_append (xs ys : List (List UInt8)) : flatW (xs ++ ys) = flatW xs ++ flatW ys := by simp [flatW]
theorem flatW_length (xs : List (List UInt8)) : (flatW xs).length = xs.length := by simp [flatW]
theorem strAt_of_own {w : World} {base n c : Nat} {A : Option Addr} {xs : List (List UInt8)} (h : w.ownsRow base 9 1 (.slice A n c) n (flatW xs)) : StrAt w w.heap.size A n xs := by
  have hl := h.1
  rw [flatW_length] at hl
  refine ⟨by omega, fun hn => ?_⟩
  rcases h.2 with ⟨_, h0⟩ | ⟨g, cap, cur, hv, hb, hg, hnc, hcm, hcs, ht⟩
  · omega
  · have hA : A = some ⟨g, 0, none⟩ := by injection hv
    subst hA
    have hlt : g < w.heap.size := (Array.getElem?_eq_some_iff.1 hg).1
    refine ⟨g, 0, rfl, hlt, fun i hi => ?_⟩
    have h1 : (flatW xs)[i]? = some (.string (bs xs[i])) := by simp [flatW, hi]
    rw [← h1, ← ht, List.getElem?_take, if_pos (by omega)]
    simp [World.cell?, hg]
theorem news1 (W : World) (a : Value) (t : TypeId) : ∀ j u, [a][j]? = some u → (W.alloc (.cells #[a] t)).cell? ((⟨W.heap.size, 0, none⟩ : Addr).add j) = some u := by
  intro j u hu
  have hj : j = 0 := by
    have := (List.getElem?_eq_some_iff.1 hu).1
    simp at this; omega
  subst hj
  simp at hu
  subst hu
  simp [Addr.add]

/-- What Words answers. -/
def WordsPost (w : World) (e : Ending) (w' : World) : Prop :=
  ∃ g cap, e = .returned (.slice (some ⟨g, 0, none⟩) 13 cap) ∧ StrAt w' w'.heap.size (some ⟨g, 0, none⟩) 13 wordsL ∧ Below w.heap.size w w'

theorem Tabs.range_words {w : World} (h : Tabs w) : w.rangeAt 3 0 wordsV.toList := fun j v hv => by
  have hj : j < 13 := (List.getElem?_eq_some_iff.1 hv).1
  have h1 := wordsV_get j hj
  rw [Array.getElem?_toList, h1] at hv
  rw [Nat.zero_add, h.1 j hj, hv]
theorem Tryz.info_words : (Tryz.prog.info? 180).map (·.size) = some wordsV.toList.length := by kernel_rfl
theorem words_take (i : Nat) (hi : i < 13) : wordsL.take (i + 1) = wordsL.take i ++ [wordsL.getD i []] := by
  have h : i < wordsL.length := by simpa [wordsL] using hi
  rw [List.take_succ_eq_append_getElem h, List.getD_eq_getElem?_getD, List.getElem?_eq_getElem h]
  rfl

end Go.Proofs.YtdeflloidhbpmaaGreatDoor
