/-
  page.byFrom: those of some spans that are not empty, in new memory, sorted by where they begin.
-/
import Derived.Test.YtjimkfniahndhaaSpans
import Derived.Laws.AppendOwn
import Derived.OwnWalk
import Derived.Test.YtjimkfniahndhaaSort
namespace Go.Proofs.Ytjimkfniahndhaa
open Go.RowKit

def fullB (x : Sp) : Bool := decide (x.1 < x.2)
theorem Try.info41 : (Try.prog.info? 41).map (fun i => (i.zero, i.size, i.bytes)) = some (some (.agg #[.int .i64 0, .int .i64 0]), 2, 16) := by kernel_rfl

theorem take_succ_filter (xs : List Sp) (k : Nat) (h : k < xs.length) : (xs.take (k + 1)).filter fullB = (xs.take k).filter fullB ++ (if fullB xs[k] then [xs[k]] else []) := by
  rw [List.take_succ_eq_append_getElem h, List.filter_append]
  congr 1
  by_cases hf : fullB xs[k] = true <;> simp [hf]

theorem filter_take_le (xs : List Sp) (k : Nat) : ((xs.take k).filter fullB).length ≤ k := by
  have h1 := List.length_filter_le fullB (xs.take k)
  have h2 : (xs.take k).length ≤ k := List.length_take_le _ _
  omega

theorem below_append {B : Nat} {w W w1 : World} {v : Value} {e : TypeId} {sz n : Nat} {xs : List Value} (hB : Below B w W) (hs : B ≤ w.heap.size) (hown : W.ownsRow B e sz v n xs) (hg : W.grownBy w1 v.ownBlock) : Below B w w1 := by
  refine hB.grown hg (Nat.le_trans hs hB.size) fun j ej => ?_
  rcases hown.2 with ⟨rfl, _⟩ | ⟨g, cap, cur, rfl, hb, _, _⟩
  · simp [Value.ownBlock] at ej
  · obtain rfl : g = j := by simpa [Value.ownBlock] using ej
    exact hb

theorem news2 (W : World) (o : Obj) (a b : Value) (t : TypeId) : ∀ j u, [a, b][j]? = some u → ((W.alloc o).alloc (.cells #[a, b] t)).cell? ((⟨W.heap.size + 1, 0, none⟩ : Addr).add j) = some u := by
  have := cell_two_new (W.alloc o) a b t
  rwa [World.size_alloc] at this

def ByPost (xs : List Sp) (w : World) (e : Ending) (w' : World) : Prop :=
  ∃ (A : Option Addr) (c : Nat) (zs : List Sp), e = .returned (.slice A zs.length c) ∧ SpAt w' w'.heap.size A zs.length zs ∧ zs.Perm (xs.filter fullB) ∧ zs.Pairwise (fun a b => a.1 ≤ b.1) ∧ Below w.heap.size w w'

set_option maxRecDepth 100000 in
set_option maxHeartbeats 1000000 in
theorem byFrom_calls (A : Option Addr) (n c : Nat) (xs : List Sp) (hn : n ≤ 1000) (w : World) (hx : SpAt w w.heap.size A n xs) :
    Calls Try.prog 29 #[.slice A n c] w (ByPost xs w) := by
  obtain ⟨i0, hi, hz0, hz1, hz2⟩ := info_parts Try.info41
  have HX := Lib.hid hx
  have HL := Lib.hid hx.1
  clear hx
  go_enter Try.func29, Try.ntmps29
  go_wp2
  go_loopw [3, 8] (fun v i wr => ∃ (k : Nat), k ≤ n ∧ i = .int .i64 k ∧ wr.ownsRow w.heap.size 41 2 v ((xs.take k).filter fullB).length (flatS ((xs.take k).filter fullB)) ∧ Below w.heap.size w wr) (fun _ i _ => n - (intOf i).toNat)
  case atStart => exact ⟨0, Nat.zero_le _, rfl, ⟨by simp [flatS], .inl ⟨rfl, by simp⟩⟩, Below.refl _ _⟩
  case round =>
    obtain ⟨k, hk, rfl, hown, hB⟩ := hrel
    have hbs := hB.size
    have hle := filter_take_le xs k
    by_cases hlt : k < n
    · have hkl : k < xs.length := by rw [HL.out]; exact hlt
      have HT := Lib.hid (take_succ_filter xs k hkl)
      have hxk := (HX.out.below hB (Nat.le_refl _)).2 (by omega)
      obtain ⟨b, off, hA, hbl, hcs⟩ := hxk
      subst hA
      have hc := hcs k hkl
      clear hcs
      obtain ⟨hc1, hc2⟩ := hc
      generalize hgx : xs[k] = x at HT hc1 hc2
      obtain ⟨x1, x2⟩ := x
      dsimp only at hc1 hc2
      clear hgx
      by_cases hf : x1 < x2
      · have HF := Lib.hid (show fullB (x1, x2) = true by simp [fullB, hf])
        generalize hys : (xs.take k).filter fullB = ys at hown hle HT
        clear hys
        go_wp2_with (at_builtin; refine wpList_append_own _ rfl _ _ 37 rfl w.heap.size 41 i0 (.agg #[.int .i64 0, .int .i64 0]) 2 16 Try.underlying37 hi hz0 hz1 hz2 rfl (by decide) u3 _ _ rfl ((hown.alloc _).alloc _) ⟨wr.heap.size + 1, 0, none⟩ 1 1 [.int .i64 x1, .int .i64 x2] rfl rfl (news2 _ _ _ _ _) (fun x hx => by simp at hx; rcases hx with rfl | rfl <;> rfl) (by unfold maxLen; omega) (by omega) (by simp; omega) ?_; intro v' w3 hown' hgrow _)
        have hB3 := below_append ((hB.alloc hbs _).alloc (by simp; omega) _) (Nat.le_refl _) ((hown.alloc _).alloc _) hgrow
        go_roundw
        case rel =>
          refine ⟨k + 1, by omega, by go_num, ?_, hB3⟩
          rw [HT.out, if_pos HF.out, List.length_append, flatS_append]
          exact hown'
        case measure => simp [intOf]; omega
      · have HF := Lib.hid (show ¬ fullB (x1, x2) = true by simp [fullB]; omega)
        generalize hys : (xs.take k).filter fullB = ys at hown hle HT
        clear hys
        go_wp2
        have hB3 := hB.alloc hbs (.cells #[.int .i64 x1, .int .i64 x2] 41)
        have hown3 := hown.alloc (.cells #[.int .i64 x1, .int .i64 x2] 41)
        go_roundw
        case rel =>
          refine ⟨k + 1, by omega, by go_num, ?_, hB3⟩
          rw [HT.out, if_neg HF.out, List.append_nil]
          exact hown3
        case measure => simp [intOf]; omega
    · obtain rfl : k = n := by omega
      have HT := Lib.hid (show xs.take k = xs from List.take_of_length_le (by rw [HL.out]; exact Nat.le_refl _))
      rw [HT.out] at hown hle
      generalize hys : xs.filter fullB = ys at hown hle
      have HY := Lib.hid hys
      clear hys
      rcases hown.2 with ⟨rfl, h0⟩ | ⟨g, cap, cur, rfl, hb, hg, hnc, hcm, hcs, ht⟩
      · have HE := Lib.hid (show ByPost xs w (.returned (.slice none 0 0)) wr from ⟨none, 0, [], rfl, ⟨rfl, fun h => absurd h (by simp)⟩, by
          rw [HY.out]
          have : ys = [] := List.eq_nil_of_length_eq_zero h0
          rw [this], List.Pairwise.nil, hB⟩)
        clear hown
        go_wp2_with (go_at_call 32; refine (sort_none _ _ _ _).mono ?_; rintro e w2 ⟨rfl, rfl⟩)
        go_ret
        exact HE.out
      · have hH := holdsK_of_own (xs := ys) rfl hg ht
        have hgl : g < wr.heap.size := (Array.getElem?_eq_some_iff.1 hg).1
        have hsort := Lib.hid (sort_calls g 0 cap ys.toArray wr hH hgl (by simp; omega))
        have HH := Lib.hid hH
        clear hown hg hcs ht hH
        go_wp2_with fail
        have hso := hsort.out
        rw [List.size_toArray] at hso
        refine hso.mono ?_
        rintro e w2 ⟨rfl, d', nn, os, hp, hs, rfl⟩
        clear hso
        have hsl := sorted_list (d := ys.toArray) (by rw [List.size_toArray]; exact hp) (by rw [List.size_toArray]; exact hs)
        have hHd := holdsK_sortWorldK_c encSp 2 wr g 0 ys.toArray d' nn os HH.out hgl hsl.1
        have hsz := size_sortWorldK_c encSp 2 wr g 0 nn d' os
        have hsp := spAt_of_holdsK hHd (by omega)
        have hlen : d'.toList.length = ys.length := by simpa using hsl.1
        have hBf := below_sortWorldK (n := nn) (d := d') (os := os) hB (Nat.le_refl _) hb
        have HE := Lib.hid (show ByPost xs w (.returned (.slice (some ⟨g, 0, none⟩) ys.length cap)) (Go.Proofs.sortWorldK encSp 2 wr g 0 nn d' os) from
          ⟨some ⟨g, 0, none⟩, cap, d'.toList, by rw [hlen], hsp, by rw [HY.out]; exact hsl.2.1, hsl.2.2, hBf⟩)
        clear hp hs hsl hHd hsz hsp hlen hBf
        generalize Go.Proofs.sortWorldK encSp 2 wr g 0 nn d' os = w9 at HE ⊢
        go_wp2
        go_ret
        exact HE.out

end Go.Proofs.Ytjimkfniahndhaa
