/-
  page.Good, page.Cut, token.Text: tokens' bytes.
-/
import Derived.Test.YtccmodefjgjpeaaGreatDoorStrs
import Derived.Test.YtccmodefjgjpeaaGreatDoorShelfA
import Derived.Test.YtccmodefjgjpeaaGreatDoorMathJ
namespace Go.Proofs.YtccmodefjgjpeaaGreatDoor
open Go.RowKit

theorem clone_calls (s : ByteArray) (hs : s.size ≤ 100000) (w : World) : Calls Tryz.prog 97 #[.string s] w fun e w' => e = .returned (.string s) ∧ Below w.heap.size w w' :=
  Any.stringslite_Clone Tryz.cloneL s w (by omega)
set_option maxRecDepth 100000 in
set_option maxHeartbeats 400000 in
theorem sclone_calls (s : ByteArray) (hs : s.size ≤ 100000) (w : World) : Calls Tryz.prog 63 #[.string s] w fun e w' => e = .returned (.string s) ∧ Below w.heap.size w w' := by
  have hc := Lib.hid (fun w => clone_calls s hs w)
  go_enter Tryz.func63, Tryz.ntmps63
  go_wp2_with fail
  refine (hc.out _).mono ?_
  rintro e w' ⟨rfl, hB⟩
  go_wp2
  go_ret
  exact ⟨rfl, hB⟩
set_option maxRecDepth 100000 in
set_option maxHeartbeats 400000 in
/-- page.Good, of a span of the text. -/
theorem good_calls (a b n : Nat) (hab : a ≤ b) (hb : b ≤ n) (w : World) : Calls Tryz.prog 62 #[.agg #[.int .i64 (a : Int), .int .i64 (b : Int)], .int .i64 (n : Int)] w fun e w' => e = .returned (.bool true) ∧ w.alloc (.cells #[.int .i64 (a : Int), .int .i64 (b : Int)] 32) = w' := by
  have h1 : (0 : Int) ≤ (a : Int) := by omega
  have h2 : (a : Int) ≤ (b : Int) := by omega
  have h3 : (b : Int) ≤ (n : Int) := by omega
  go_enter Tryz.func62, Tryz.ntmps62
  go_wp2
  go_ret
  exact ⟨rfl, rfl⟩
set_option maxRecDepth 100000 in
set_option maxHeartbeats 400000 in
theorem cut_calls (s : ByteArray) (hs : s.size ≤ 100000) (a b : Nat) (hab : a ≤ b) (hb : b ≤ s.size) (w : World) :
    Calls Tryz.prog 41 #[.string s, .agg #[.int .i64 (a : Int), .int .i64 (b : Int)]] w fun e w' => e = .returned (.string (s.extract a b)) ∧ Below w.heap.size w w' := by
  have hcall := Lib.hid (fun W => good_calls a b s.size hab hb W)
  have hcl := Lib.hid (fun w => sclone_calls (s.extract a b) (by simp; omega) w)
  go_enter Tryz.func41, Tryz.ntmps41
  go_wp2_with fail
  refine (hcall.out _).mono ?_
  rintro e w1 ⟨rfl, rfl⟩
  go_wp2_with fail
  refine (hcl.out _).mono ?_
  rintro e w2 ⟨rfl, hB⟩
  go_wp2
  go_ret
  exact ⟨rfl, (((Below.refl _ w).alloc (Nat.le_refl _) _).alloc (by simp) _).trans (hB.mono (by simp; omega))⟩
theorem extract_bs (s : ByteArray) (x : Tok) : s.extract x.lo x.hi = bs (bytesOf s.data.toList x) := bs_eq.2 (extract_list s x.lo x.hi)

/-- What Text answers. -/
def TextPost (s : ByteArray) (xs : List Tok) (w : World) (e : Ending) (w' : World) : Prop :=
  ∃ A c, e = .returned (.slice A xs.length c) ∧ StrAt w' w'.heap.size A xs.length (xs.map (bytesOf s.data.toList)) ∧ Below w.heap.size w w'
theorem map_take_succ (f : Tok → List UInt8) (xs : List Tok) (i : Nat) (h : i < xs.length) : (xs.take (i + 1)).map f = (xs.take i).map f ++ [f xs[i]] := by
  rw [List.take_succ_eq_append_getElem h, List.map_append]; rfl
theorem news1a (W : World) (a : Value) (t : TypeId) (n : Nat) (hn : W.heap.size = n) : ∀ j u, [a][j]? = some u → (W.alloc (.cells #[a] t)).cell? ((⟨n, 0, none⟩ : Addr).add j) = some u := by
  subst hn; exact news1 W a t

set_option maxRecDepth 100000 in
set_option maxHeartbeats 1000000 in
theorem text_calls (s : ByteArray) (hs : s.size ≤ 100000) (A : Option Addr) (c : Nat) (xs : List Tok) (hn : xs.length ≤ 100001) (w : World) (hx : TkAt w w.heap.size A xs.length xs) (hg : ∀ i (h : i < xs.length), (xs[i]).lo ≤ (xs[i]).hi ∧ (xs[i]).hi ≤ s.size) :
    Calls Tryz.prog 27 #[.string s, .slice A xs.length c] w (TextPost s xs w) := by
  obtain ⟨i0, hi, hz0, hz1, hz2⟩ := info_parts Tryz.infoStr
  have HX := Lib.hid hx
  have HGD := Lib.hid hg
  clear hx hg
  go_enter Tryz.func27, Tryz.ntmps27
  go_wp2
  go_loopw [5, 10] (fun v a wr => ∃ i : Nat, i ≤ xs.length ∧ a = .int .i64 i ∧ wr.ownsRow w.heap.size 9 1 v i (flatW ((xs.take i).map (bytesOf s.data.toList))) ∧ Below w.heap.size w wr) (fun _ a _ => xs.length - (intOf a).toNat)
  case atStart => exact ⟨0, by omega, rfl, ⟨by simp [flatW], .inl ⟨rfl, by simp⟩⟩, Below.refl _ _⟩
  case round =>
    obtain ⟨i, hin, rfl, hown, hB⟩ := hrel
    have hbs := hB.size
    by_cases hlt : i < xs.length
    · have HT := Lib.hid (map_take_succ (bytesOf s.data.toList) xs i hlt)
      obtain ⟨b, off, rfl, hbl, hxl, c0, c1, c2⟩ := (HX.out.below hB (Nat.le_refl _)).get i hlt
      have hgd := HGD.out i hlt
      have HE := Lib.hid (extract_bs s xs[i])
      generalize hgx : xs[i] = x at HT c0 c1 c2 hgd HE
      clear hgx
      obtain ⟨kd, lo, hi'⟩ := x
      dsimp only at c0 c1 c2 hgd HE
      obtain ⟨g1, g2⟩ := hgd
      have hi0 : (0 : Int) ≤ (i : Int) := by omega
      have hi1 : (i : Int) < (xs.length : Int) := by omega
      have hcut := Lib.hid (fun W => cut_calls s hs lo hi' g1 g2 W)
      go_wp2_with fail
      refine (hcut.out _).mono ?_
      rintro e w2 ⟨rfl, hB2⟩
      have hown2 := own_below (hown.alloc _) hB2
      have hB3 := (hB.alloc hbs _).trans (hB2.mono (by simp; omega))
      have hbs2 := hB3.size
      clear hB2
      go_wp2_with (at_builtin; refine wpList_append_own _ rfl _ _ 41 rfl w.heap.size 9 i0 (.string ⟨#[]⟩) 1 16 Tryz.underlying41 hi hz0 hz1 hz2 rfl (by decide) u5 _ _ rfl (hown2.alloc _) ⟨w2.heap.size, 0, none⟩ 1 1 [.string (s.extract lo hi')] rfl rfl (news1 _ _ _) (fun x hx => by simp at hx; subst hx; rfl) (by unfold maxLen; omega) (by omega) (by simp; omega) ?_; intro v' w3 hown' hgrow _; have HG := Lib.hid hgrow; clear hgrow)
      have hB4 := below_append (hB3.alloc hB3.size _) (Nat.le_refl _) (hown2.alloc _) HG.out
      go_roundw
      case rel =>
        refine ⟨i + 1, by omega, by go_num, ?_, hB4⟩
        rw [HT.out, flatW_append]
        rw [HE.out] at hown'
        exact hown'
      case measure => simp [intOf]; omega
    · obtain rfl : i = xs.length := by omega
      have HT := Lib.hid (show xs.take xs.length = xs from List.take_of_length_le (Nat.le_refl _))
      rw [HT.out] at hown
      rcases hown.2 with ⟨rfl, h0⟩ | ⟨g, cap, cur, rfl, hb, hg, hnc, hcm, hcs, ht⟩
      · have hsp := strAt_of_own (c := 0) (A := none) (n := 0) (xs := xs.map (bytesOf s.data.toList)) (by rw [h0] at hown; exact hown)
        have HP := Lib.hid (show TextPost s xs w (.returned (.slice none 0 0)) wr from ⟨none, 0, by rw [h0], by rw [h0]; exact hsp, hB⟩)
        clear hsp hown h0
        go_wp2
        go_ret
        exact HP.out
      · clear hg hnc hcm hcs ht
        have hsp := strAt_of_own hown
        have HP := Lib.hid (show TextPost s xs w (.returned (.slice (some ⟨g, 0, none⟩) xs.length cap)) wr from ⟨_, cap, rfl, hsp, hB⟩)
        clear hsp hown hb
        go_wp2
        go_ret
        exact HP.out

end Go.Proofs.YtccmodefjgjpeaaGreatDoor
