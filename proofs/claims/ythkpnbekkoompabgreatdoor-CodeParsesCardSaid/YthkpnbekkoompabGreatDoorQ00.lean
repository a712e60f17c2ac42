/-
  Slices of tokens in memory.
  token.All: a text's tokens, or where something is none.
  The reference's list of words, and whether a text is in a list.
  The reference's Next at the text's end, and at a name.
-/
import Derived.Test.YthkpnbekkoompabGreatDoorNext
import Derived.Laws.AppendOwn
import Derived.OwnWalk
import Derived.RegionTactic
import Derived.Deep.QuietTactic
import Derived.BigQuiet
import Derived.Deep.RegionWith
import Derived.BigRegion
namespace Go.Proofs.YthkpnbekkoompabGreatDoor
open Go.RowKit

theorem Tryz.infoTk : (Tryz.prog.info? 101).map (fun i => (i.zero, i.size, i.bytes)) = some (some (.agg #[.int .i64 0, .int .i64 0, .int .i64 0]), 3, 24) := by kernel_rfl

/-- The cells of tokens. -/
def flatT (xs : List Tok) : List Value := xs.flatMap fun x => [.int .i64 (x.kind : Int), .int .i64 (x.lo : Int), .int .i64 (x.hi : Int)]
theorem flatT_append (xs ys : List Tok) : flatT (xs ++ ys) = flatT xs ++ flatT ys := by simp [flatT]
theorem flatT_length (xs : List Tok) : (flatT xs).length = xs.length * 3 := by
  induction xs with
  | nil => rfl
  | cons x r ih => simp [flatT] at ih ⊢; omega
theorem flatT_get (xs : List Tok) (i : Nat) (h : i < xs.length) : (flatT xs)[i * 3]? = some (.int .i64 ((xs[i]).kind : Int)) ∧ (flatT xs)[i * 3 + 1]? = some (.int .i64 ((xs[i]).lo : Int)) ∧ (flatT xs)[i * 3 + 2]? = some (.int .i64 ((xs[i]).hi : Int)) := by
  induction xs generalizing i with
  | nil => simp at h
  | cons x r ih =>
    cases i with
    | zero => simp [flatT]
    | succ i =>
      have := ih i (by simpa using h)
      rw [show (i + 1) * 3 = i * 3 + 3 from by omega, show i * 3 + 3 + 1 = i * 3 + 1 + 3 from by omega, show i * 3 + 3 + 2 = i * 3 + 2 + 3 from by omega]
      simpa [flatT] using this

/-- A slice value, its address A and its length n, reads as the tokens xs, in a block below B. -/
def TkAt (w : World) (B : Nat) (A : Option Addr) (n : Nat) (xs : List Tok) : Prop :=
  xs.length = n ∧ (0 < n → ∃ b off, A = some ⟨b, off, none⟩ ∧ b < B ∧ ∀ i (h : i < xs.length), w.cell? ⟨b, off + i * 3, none⟩ = some (.int .i64 ((xs[i]).kind : Int)) ∧ w.cell? ⟨b, off + i * 3 + 1, none⟩ = some (.int .i64 ((xs[i]).lo : Int)) ∧ w.cell? ⟨b, off + i * 3 + 2, none⟩ = some (.int .i64 ((xs[i]).hi : Int)))
theorem TkAt.below {w w' : World} {B B' : Nat} {A : Option Addr} {n : Nat} {xs : List Tok} (h : TkAt w B A n xs) (hb : Below B' w w') (hB : B ≤ B') : TkAt w' B A n xs :=
  ⟨h.1, fun hn => by
    obtain ⟨b, off, rfl, hlt, hc⟩ := h.2 hn
    exact ⟨b, off, rfl, hlt, fun i hi => ⟨(hb.cell (p := ⟨b, off + i * 3, none⟩) (by simp; omega)).trans (hc i hi).1, (hb.cell (p := ⟨b, off + i * 3 + 1, none⟩) (by simp; omega)).trans (hc i hi).2.1, (hb.cell (p := ⟨b, off + i * 3 + 2, none⟩) (by simp; omega)).trans (hc i hi).2.2⟩⟩⟩
theorem TkAt.mono {w : World} {B B' : Nat} {A : Option Addr} {n : Nat} {xs : List Tok} (h : TkAt w B A n xs) (hB : B ≤ B') : TkAt w B' A n xs :=
  ⟨h.1, fun hn => by
    obtain ⟨b, off, rfl, hlt, hc⟩ := h.2 hn
    exact ⟨b, off, rfl, by omega, hc⟩⟩
theorem TkAt.get {w : World} {B : Nat} {A : Option Addr} {n : Nat} {xs : List Tok} (h : TkAt w B A n xs) (i : Nat) (hi : i < n) : ∃ b off, A = some ⟨b, off, none⟩ ∧ b < B ∧ ∃ h : i < xs.length, w.cell? ⟨b, off + i * 3, none⟩ = some (.int .i64 ((xs[i]).kind : Int)) ∧ w.cell? ⟨b, off + i * 3 + 1, none⟩ = some (.int .i64 ((xs[i]).lo : Int)) ∧ w.cell? ⟨b, off + i * 3 + 2, none⟩ = some (.int .i64 ((xs[i]).hi : Int)) := by
  obtain ⟨b, off, e, hlt, hc⟩ := h.2 (by omega)
  have hx : i < xs.length := by rw [h.1]; exact hi
  exact ⟨b, off, e, hlt, hx, hc i hx⟩
/-- A row of the call's own reads as its tokens. -/
theorem tkAt_of_own {w : World} {base n c : Nat} {A : Option Addr} {xs : List Tok} (h : w.ownsRow base 101 3 (.slice A n c) n (flatT xs)) : TkAt w w.heap.size A n xs := by
  have hl := h.1
  rw [flatT_length] at hl
  refine ⟨by omega, fun hn => ?_⟩
  rcases h.2 with ⟨_, h0⟩ | ⟨g, cap, cur, hv, hb, hg, hnc, hcm, hcs, ht⟩
  · omega
  · have hA : A = some ⟨g, 0, none⟩ := by injection hv
    subst hA
    have hlt : g < w.heap.size := (Array.getElem?_eq_some_iff.1 hg).1
    refine ⟨g, 0, rfl, hlt, fun i hi => ?_⟩
    have key : ∀ j, j < n * 3 → w.cell? ⟨g, 0 + j, none⟩ = (flatT xs)[j]? := fun j hj => by
      rw [← ht, List.getElem?_take, if_pos hj]
      simp [World.cell?, hg]
    have h1 := flatT_get xs i hi
    exact ⟨(key (i * 3) (by omega)).trans h1.1, by rw [Nat.add_assoc]; exact (key (i * 3 + 1) (by omega)).trans h1.2.1, by rw [Nat.add_assoc]; exact (key (i * 3 + 2) (by omega)).trans h1.2.2⟩

theorem below_append {B : Nat} {w W w1 : World} {v : Value} {e : TypeId} {sz n : Nat} {xs : List Value} (hB : Below B w W) (hs : B ≤ w.heap.size) (hown : W.ownsRow B e sz v n xs) (hg : W.grownBy w1 v.ownBlock) : Below B w w1 := by
  refine hB.grown hg (Nat.le_trans hs hB.size) fun j ej => ?_
  rcases hown.2 with ⟨rfl, _⟩ | ⟨g, cap, cur, rfl, hb, _, _⟩
  · simp [Value.ownBlock] at ej
  · obtain rfl : g = j := by simpa [Value.ownBlock] using ej
    exact hb
theorem news3 (W : World) (o : Obj) (a b c : Value) (t : TypeId) : ∀ j u, [a, b, c][j]? = some u → ((W.alloc o).alloc (.cells #[a, b, c] t)).cell? ((⟨W.heap.size + 1, 0, none⟩ : Addr).add j) = some u := by
  intro j u hu
  have hj : j = 0 ∨ j = 1 ∨ j = 2 := by
    have := (List.getElem?_eq_some_iff.1 hu).1
    simp at this; omega
  rcases hj with rfl | rfl | rfl <;> simp at hu <;> subst hu <;> simp [Addr.add]

theorem own_drewN {w : World} {base n : Nat} {e : TypeId} {size : Nat} {v : Value} {xs : List Value} (h : w.ownsRow base e size v n xs) (k : Nat) : (w.drewN k).ownsRow base e size v n xs := h
theorem below_drewN' {B : Nat} {a w : World} (h : Below B a w) (n : Nat) : Below B a (w.drewN n) := ⟨h.os, h.tape, h.output, h.size, h.block⟩
theorem Tabs.drewN {w : World} (h : Tabs w) (n : Nat) : Tabs (w.drewN n) := h

end Go.Proofs.YthkpnbekkoompabGreatDoor

namespace Go.Proofs.YthkpnbekkoompabGreatDoor
open Go.RowKit

/-- What All answers. -/
def AllPost (s : ByteArray) (w : World) (e : Ending) (w' : World) : Prop :=
  Below w.heap.size w w' ∧ ((∃ p, (toks s.data.toList 0).2 = some p ∧ e = .returned (.tuple #[.slice none 0 0, .int .i64 (p : Int), .int .i64 2])) ∨
  ((toks s.data.toList 0).2 = none ∧ ∃ A c, e = .returned (.tuple #[.slice A (toks s.data.toList 0).1.length c, .int .i64 0, .int .i64 0]) ∧ TkAt w' w'.heap.size A (toks s.data.toList 0).1.length (toks s.data.toList 0).1))
/-- What All's loop knows at the head of a round. -/
def AllI (s : ByteArray) (w : World) (k : Nat) (pre : List Tok) (v i : Value) (wr : World) : Prop :=
  k ≤ s.size ∧ i = .int .i64 (k : Int) ∧ pre.length ≤ k ∧ toks s.data.toList 0 = (pre ++ (toks s.data.toList k).1, (toks s.data.toList k).2) ∧ wr.ownsRow w.heap.size 101 3 v pre.length (flatT pre) ∧ Below w.heap.size w wr

theorem own_some {w : World} {base n : Nat} {e : TypeId} {size : Nat} {v : Value} {xs : List Value} (h : w.ownsRow base e size v (n + 1) xs) : ∃ g cap, v = .slice (some ⟨g, 0, none⟩) (n + 1) cap := by
  rcases h.2 with ⟨_, h0⟩ | ⟨g, cap, cur, hv, _⟩
  · omega
  · exact ⟨g, cap, hv⟩
theorem box_after {W w3 : World} {base n : Nat} {e t : TypeId} {size : Nat} {v : Value} {xs : List Value} {a b c : Value} {o : Obj} (h : W.ownsRow base e size v n xs) (hg : ((W.alloc (.cells #[a, b, c] t)).alloc o).grownBy w3 v.ownBlock) :
    w3.cell? ⟨W.heap.size, 0, none⟩ = some a ∧ w3.cell? ⟨W.heap.size, 1, none⟩ = some b ∧ w3.cell? ⟨W.heap.size, 2, none⟩ = some c := by
  have hne : some W.heap.size ≠ v.ownBlock := fun e => by
    rcases h.2 with ⟨rfl, _⟩ | ⟨g, cap, cur, rfl, hb, hgg, _⟩
    · simp [Value.ownBlock] at e
    · have : W.heap.size = g := by simpa [Value.ownBlock] using e
      have hlt := (Array.getElem?_eq_some_iff.1 hgg).1
      omega
  have hk := hg.block W.heap.size (by simp; omega) hne
  have h0 : ((W.alloc (.cells #[a, b, c] t)).alloc o).heap[W.heap.size]? = some (.cells #[a, b, c] t (0, 0)) := by
    show ((W.heap.push _).push _)[W.heap.size]? = _
    simp [Array.getElem?_push]
  rw [h0] at hk
  refine ⟨?_, ?_, ?_⟩ <;> simp [World.cell?, hk]

theorem own_below {w w' : World} {base n : Nat} {e : TypeId} {size : Nat} {v : Value} {xs : List Value} (h : w.ownsRow base e size v n xs) (hB : Below w.heap.size w w') : w'.ownsRow base e size v n xs := by
  refine ⟨h.1, ?_⟩
  rcases h.2 with h0 | ⟨g, cap, cur, hv, hb, hg, hnc, hcm, hcs, ht⟩
  · exact .inl h0
  · exact .inr ⟨g, cap, cur, hv, hb, (hB.block g (Array.getElem?_eq_some_iff.1 hg).1).trans hg, hnc, hcm, hcs, ht⟩

end Go.Proofs.YthkpnbekkoompabGreatDoor

namespace Go.Proofs.YthkpnbekkoompabGreatDoor
open Go.RowKit

/-- A slice value reads as the texts xs, in a block below B. -/
def StrAt (w : World) (B : Nat) (A : Option Addr) (n : Nat) (xs : List (List UInt8)) : Prop :=
  xs.length = n ∧ (0 < n → ∃ b off, A = some ⟨b, off, none⟩ ∧ b < B ∧ ∀ i (h : i < xs.length), w.cell? ⟨b, off + i, none⟩ = some (.string (bs xs[i])))
theorem StrAt.below {w w' : World} {B B' : Nat} {A : Option Addr} {n : Nat} {xs : List (List UInt8)} (h : StrAt w B A n xs) (hb : Below B' w w') (hB : B ≤ B') : StrAt w' B A n xs :=
  ⟨h.1, fun hn => by
    obtain ⟨b, off, rfl, hlt, hc⟩ := h.2 hn
    exact ⟨b, off, rfl, hlt, fun i hi => (hb.cell (p := ⟨b, off + i, none⟩) (by simp; omega)).trans (hc i hi)⟩⟩
theorem StrAt.mono {w : World} {B B' : Nat} {A : Option Addr} {n : Nat} {xs : List (List UInt8)} (h : StrAt w B A n xs) (hB : B ≤ B') : StrAt w B' A n xs :=
  ⟨h.1, fun hn => by
    obtain ⟨b, off, rfl, hlt, hc⟩ := h.2 hn
    exact ⟨b, off, rfl, by omega, hc⟩⟩
theorem StrAt.get {w : World} {B : Nat} {A : Option Addr} {n : Nat} {xs : List (List UInt8)} (h : StrAt w B A n xs) (i : Nat) (hi : i < n) : ∃ b off, A = some ⟨b, off, none⟩ ∧ b < B ∧ ∃ h : i < xs.length, w.cell? ⟨b, off + i, none⟩ = some (.string (bs xs[i])) := by
  obtain ⟨b, off, e, hlt, hc⟩ := h.2 (by omega)
  have hx : i < xs.length := by rw [h.1]; exact hi
  exact ⟨b, off, e, hlt, hx, hc i hx⟩
/-- A new row of texts. -/
theorem strAt_new (w : World) (V : Array Value) (t : TypeId) (xs : List (List UInt8)) (n : Nat) (hn : xs.length = n) (hv : ∀ i (h : i < xs.length), V[i]? = some (.string (bs xs[i]))) :
    StrAt (w.alloc (.cells V t)) (w.heap.size + 1) (some ⟨w.heap.size, 0, none⟩) n xs := by
  refine ⟨hn, fun _ => ⟨w.heap.size, 0, rfl, by omega, fun i hi => ?_⟩⟩
  rw [Nat.zero_add, ← hv i hi]
  have : (w.alloc (.cells V t)).heap[w.heap.size]? = some (.cells V t (0, 0)) := by
    show (w.heap.push _)[w.heap.size]? = _
    simp
  generalize w.alloc (.cells V t) = W at this
  simp [World.cell?, this]

def hasB (xs : List (List UInt8)) (b : List UInt8) : Bool := xs.contains b
theorem hasB_yes {xs : List (List UInt8)} {b : List UInt8} (i : Nat) (h : i < xs.length) (e : b = xs[i]) : hasB xs b = true := by
  subst e; simp [hasB]
theorem hasB_no {xs : List (List UInt8)} {b : List UInt8} (h : ∀ i (h : i < xs.length), b ≠ xs[i]) : hasB xs b = false := by
  unfold hasB
  rw [Bool.eq_false_iff]
  intro hc
  obtain ⟨i, hi, e⟩ := List.mem_iff_getElem.1 (show b ∈ xs by simpa using hc)
  exact h i hi e.symm

set_option maxRecDepth 100000 in
set_option maxHeartbeats 1000000 in
theorem has_calls (A : Option Addr) (n c : Nat) (xs : List (List UInt8)) (s : ByteArray) (hn : n ≤ 100000) (w : World) (B : Nat) (hx : StrAt w B A n xs) :
    Calls Tryz.prog 88 #[.slice A n c, .string s] w fun e w' => e = .returned (.bool (hasB xs s.data.toList)) ∧ w = w' := by
  have HX := Lib.hid hx
  have HL := Lib.hid hx.1
  clear hx
  go_enter Tryz.func88, Tryz.ntmps88
  go_wp2
  go_loop [8] (fun a => ∃ i : Nat, i ≤ n ∧ a = .int .i64 i ∧ Hid (∀ j (h : j < xs.length), j < i → s.data.toList ≠ xs[j])) (fun a => n - (intOf a).toNat)
  case atStart => exact ⟨0, by omega, rfl, Lib.hid (fun j _ hj => by omega)⟩
  case round =>
    obtain ⟨i, hi, rfl, HN⟩ := hrel
    by_cases hlt : i < n
    · obtain ⟨b, off, rfl, hb, hxl, hc⟩ := HX.out.get i hlt
      have h1 : (i : Int) < (n : Int) := by omega
      by_cases he : s.data.toList = xs[i]
      · have HE := Lib.hid (hasB_yes i hxl he)
        have hq : ((bs xs[i]).toList == s.toList) = true := by rw [← he]; exact beq_self_eq_true _
        clear he
        go_wp2
        go_ret
        exact ⟨ret_bool HE.out.symm, rfl⟩
      · have HE := Lib.hid he
        have hq : ((bs xs[i]).toList == s.toList) = false := str_ne (fun e => he (by rw [← e, bs_toList]))
        clear he
        go_wp2
        go_round
        case rel => exact ⟨i + 1, by omega, by go_num, Lib.hid (fun j hj hji => by
          by_cases h : j = i
          · subst h; exact HE.out
          · exact HN.out j hj (by omega))⟩
        case measure => simp [intOf]; omega
    · obtain rfl : i = n := by omega
      have HE := Lib.hid (hasB_no (xs := xs) (b := s.data.toList) (fun j hj => HN.out j hj (by rw [← HL.out]; exact hj)))
      go_wp2
      go_ret
      exact ⟨ret_bool HE.out.symm, rfl⟩

theorem wordsV_words (i : Nat) (h : i < wordsL.length) : wordsV[i]? = some (.string (bs wordsL[i])) := by
  rw [wordsV_get i (by simpa [wordsL] using h)]
  unfold wordB
  rw [List.getD_eq_getElem?_getD, List.getElem?_eq_getElem h]
  rfl
set_option maxRecDepth 100000 in
set_option maxHeartbeats 1000000 in
theorem refWords_calls (w : World) : Calls Tryz.prog 89 #[] w fun e w' => e = .returned (.slice (some ⟨w.heap.size, 0, none⟩) 13 13) ∧ w.alloc (.cells wordsV 9) = w' := by
  go_enter Tryz.func89, Tryz.ntmps89
  go_wp2
  go_ret
  exact ⟨rfl, rfl⟩

end Go.Proofs.YthkpnbekkoompabGreatDoor

namespace Go.Proofs.YthkpnbekkoompabGreatDoor
open Go.RowKit

theorem has_words (w : World) (o : Obj) (s : ByteArray) : Calls Tryz.prog 88 #[.slice (some ⟨w.heap.size + 1, 0, none⟩) 13 13, .string s] ((w.alloc o).alloc (.cells wordsV 9)).drew fun e w' => e = .returned (.bool (isW s.data.toList)) ∧ ((w.alloc o).alloc (.cells wordsV 9)).drew = w' := by
  have h := strAt_new (w.alloc o) wordsV 9 wordsL 13 rfl wordsV_words
  rw [World.size_alloc] at h
  exact has_calls _ 13 13 wordsL s (by omega) _ _ h

theorem refEnd (s : ByteArray) (hs : s.size ≤ 100000) (k : Nat) (hk : k ≤ s.size) (h : skipTo false s.data.toList k = s.size) (w : World) :
    Calls Tryz.prog 69 #[.string s, .int .i64 (k : Int)] w fun e w' => e = .returned (.tuple #[tokV ⟨0, s.size, s.size⟩, .int .i64 0]) ∧ Below w.heap.size w w' := by
  have hsk := Lib.hid (fun w => refSkip_calls s hs k hk w)
  rw [h] at hsk
  clear h
  go_enter Tryz.func69, Tryz.ntmps69
  go_wp2_with fail
  refine (hsk.out _).mono ?_
  rintro e w1 ⟨rfl, rfl⟩
  go_wp2
  refine bodyPost_ret (v := .tuple #[tokV ⟨0, s.size, s.size⟩, .int .i64 0]) (by simp [results, Tryz.results69, go_sem, tokV]) rfl ⟨rfl, ?_⟩
  exact (Below.refl _ w).alloc (Nat.le_refl _) _

set_option maxRecDepth 100000 in
set_option maxHeartbeats 2000000 in
theorem refName (s : ByteArray) (hs : s.size ≤ 100000) (k f : Nat) (hk : k ≤ s.size) (hf : f < s.size) (h : skipTo false s.data.toList k = f) (hl : isLet s[f] = true) (w : World) :
    Calls Tryz.prog 69 #[.string s, .int .i64 (k : Int)] w fun e w' => e = .returned (.tuple #[tokV ⟨nameK ((s.data.toList.drop f).take (run isAl (s.data.toList.drop f))), f, f + run isAl (s.data.toList.drop f)⟩, .int .i64 0]) ∧ Below w.heap.size w w' := by
  have hsk := Lib.hid (fun w => refSkip_calls s hs k hk w)
  rw [h] at hsk
  clear h
  have hne : ((f : Int) == (s.size : Int)) = false := by rw [beq_eq_false_iff_ne]; omega
  have hlt := Lib.hid (fun w => refLetter_calls s[f] w)
  rw [hl] at hlt
  clear hl
  go_enter Tryz.func69, Tryz.ntmps69
  go_wp2_with fail
  refine (hsk.out _).mono ?_
  rintro e w1 ⟨rfl, rfl⟩
  go_wp2_with fail
  refine (hlt.out _).mono ?_
  rintro e w1 ⟨rfl, rfl⟩
  go_wp2
  go_loop [6] (fun a => ∃ i : Nat, i ≤ s.size ∧ f ≤ i ∧ a = .int .i64 i ∧ Hid (runTo isAl s.data.toList i = runTo isAl s.data.toList f)) (fun a => s.size - (intOf a).toNat)
  case atStart => exact ⟨f, by omega, Nat.le_refl _, rfl, Lib.hid rfl⟩
  case round =>
    obtain ⟨i, hi, hfi, rfl, HR⟩ := hrel
    by_cases hlt : i < s.size
    · have hc1 := Lib.hid (fun w => refLetter_calls s[i] w)
      have hc2 := Lib.hid (fun w => refDigit_calls s[i] w)
      have hlt' : i < s.data.toList.length := by simpa using hlt
      have hp : isAl s[i] = (isLet s[i] || isDig s[i]) := rfl
      cases h1 : isLet s[i] <;> cases h2 : isDig s[i]
      case false.false =>
        rw [h1] at hc1 hp
        rw [h2] at hc2 hp
        simp only [Bool.or_false] at hp
        have HS := Lib.hid (runTo_stop isAl s.data.toList i hlt' hp)
        clear hp h1 h2 hlt'
        have hx : (s.extract f i).data.toList = (s.data.toList.drop f).take (run isAl (s.data.toList.drop f)) := by
          have h1 : runTo isAl s.data.toList f = i := by rw [← HR.out, HS.out]
          rw [extract_list]; unfold runTo at h1; rw [show i - f = run isAl (s.data.toList.drop f) from by omega]
        have HX : Hid (nameK ((s.data.toList.drop f).take (run isAl (s.data.toList.drop f))) = nameK (s.extract f i).data.toList ∧ f + run isAl (s.data.toList.drop f) = i) := Lib.hid ⟨by rw [hx], by
          have h1 : runTo isAl s.data.toList f = i := by rw [← HR.out, HS.out]
          exact h1⟩
        have hwd := Lib.hid (has_words w (.cells #[.int .i64 0, .int .i64 0, .int .i64 0] 101) (s.extract f i))
        have h1 : (f : Int) ≤ (i : Int) := by omega
        have h2 : (i : Int) ≤ (s.size : Int) := by omega
        have HK : Hid (nameK (s.extract f i).data.toList = if isW (s.extract f i).data.toList then 3 else 1) := Lib.hid rfl
        clear hx HS HR
        cases hw : isW (s.extract f i).data.toList
        all_goals
          rw [hw] at hwd HK
          clear hw
          go_wp2_with (first | (go_at_call 86; refine (hc1.out _).mono ?_; rintro e w' ⟨rfl, rfl⟩) | (go_at_call 87; refine (hc2.out _).mono ?_; rintro e w' ⟨rfl, rfl⟩))
          go_region_with (first | (go_at_call 89; refine (refWords_calls _).mono ?_; rintro e w' ⟨rfl, rfl⟩) | (go_at_call 88; refine hwd.out.mono ?_; rintro e w' ⟨rfl, rfl⟩))
          go_wp2
        · refine bodyPost_ret (v := .tuple #[tokV ⟨1, f, i⟩, .int .i64 0]) (by simp [results, Tryz.results69, go_sem, tokV]) rfl ⟨by rw [HX.out.1, HX.out.2, HK.out]; rfl, ?_⟩
          exact (((Below.refl _ w).alloc (Nat.le_refl _) _).alloc (by simp) _).drew
        · refine bodyPost_ret (v := .tuple #[tokV ⟨3, f, i⟩, .int .i64 0]) (by simp [results, Tryz.results69, go_sem, tokV]) rfl ⟨by rw [HX.out.1, HX.out.2, HK.out]; rfl, ?_⟩
          exact (((Below.refl _ w).alloc (Nat.le_refl _) _).alloc (by simp) _).drew
      all_goals
        rw [h1] at hc1 hp
        rw [h2] at hc2 hp
        simp only [Bool.or_false, Bool.or_true] at hp
        have HS := Lib.hid (runTo_step isAl s.data.toList i hlt' hp)
        clear hp h1 h2 hlt'
        go_wp2_with (first | (go_at_call 86; refine (hc1.out _).mono ?_; rintro e w' ⟨rfl, rfl⟩) | (go_at_call 87; refine (hc2.out _).mono ?_; rintro e w' ⟨rfl, rfl⟩))
        go_round
        case rel => exact ⟨i + 1, by omega, by omega, by go_num, Lib.hid (HS.out.trans HR.out)⟩
        case measure => simp [intOf]; omega
    · have HS := Lib.hid (runTo_end isAl s.data.toList i (by simp; omega))
      have hd : decide ((i : Int) < (s.size : Int)) = false := by simp; omega
      have hx : (s.extract f i).data.toList = (s.data.toList.drop f).take (run isAl (s.data.toList.drop f)) := by
        have h1 : runTo isAl s.data.toList f = i := by rw [← HR.out, HS.out]
        rw [extract_list]; unfold runTo at h1; rw [show i - f = run isAl (s.data.toList.drop f) from by omega]
      have HX : Hid (nameK ((s.data.toList.drop f).take (run isAl (s.data.toList.drop f))) = nameK (s.extract f i).data.toList ∧ f + run isAl (s.data.toList.drop f) = i) := Lib.hid ⟨by rw [hx], by
        have h1 : runTo isAl s.data.toList f = i := by rw [← HR.out, HS.out]
        exact h1⟩
      have hwd := Lib.hid (has_words w (.cells #[.int .i64 0, .int .i64 0, .int .i64 0] 101) (s.extract f i))
      have h1 : (f : Int) ≤ (i : Int) := by omega
      have h2 : (i : Int) ≤ (s.size : Int) := by omega
      have HK : Hid (nameK (s.extract f i).data.toList = if isW (s.extract f i).data.toList then 3 else 1) := Lib.hid rfl
      clear hx HS HR
      cases hw : isW (s.extract f i).data.toList
      all_goals
        rw [hw] at hwd HK
        clear hw
        go_wp2_with fail
        go_region_with (first | (go_at_call 89; refine (refWords_calls _).mono ?_; rintro e w' ⟨rfl, rfl⟩) | (go_at_call 88; refine hwd.out.mono ?_; rintro e w' ⟨rfl, rfl⟩))
        go_wp2
      · refine bodyPost_ret (v := .tuple #[tokV ⟨1, f, i⟩, .int .i64 0]) (by simp [results, Tryz.results69, go_sem, tokV]) rfl ⟨by rw [HX.out.1, HX.out.2, HK.out]; rfl, ?_⟩
        exact (((Below.refl _ w).alloc (Nat.le_refl _) _).alloc (by simp) _).drew
      · refine bodyPost_ret (v := .tuple #[tokV ⟨3, f, i⟩, .int .i64 0]) (by simp [results, Tryz.results69, go_sem, tokV]) rfl ⟨by rw [HX.out.1, HX.out.2, HK.out]; rfl, ?_⟩
        exact (((Below.refl _ w).alloc (Nat.le_refl _) _).alloc (by simp) _).drew

end Go.Proofs.YthkpnbekkoompabGreatDoor
